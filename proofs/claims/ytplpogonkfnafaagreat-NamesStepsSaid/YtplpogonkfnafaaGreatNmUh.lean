/- NamesSteps: the walk. -/
import Derived.Test.YtplpogonkfnafaaGreatNmUg
import Derived.Test.YtplpogonkfnafaaGreatNmBh
namespace Go.Proofs.YtplpogonkfnafaaGreat
open Go.RowKit Go.Nm

theorem args_cells (w : World) (v1 v2 : Value) (a0 a1 a2 a3 a4 a5 : Value) : ∀ W0, (w.alloc (.cells #[v1, v2] 25)).alloc (.cells #[a0, a1, a2, a3, a4, a5] 27) = W0 → Below w.heap.size w W0 ∧ ∀ Y, Below W0.heap.size W0 Y →
    (Y.cell? ⟨w.heap.size, 0, none⟩ = some v1 ∧ Y.cell? ⟨w.heap.size, 1, none⟩ = some v2) ∧ Y.cell? ⟨w.heap.size + 1, 0, none⟩ = some a0 ∧ Y.cell? ⟨w.heap.size + 1, 1, none⟩ = some a1 ∧ Y.cell? ⟨w.heap.size + 1, 2, none⟩ = some a2 ∧ Y.cell? ⟨w.heap.size + 1, 3, none⟩ = some a3 ∧ Y.cell? ⟨w.heap.size + 1, 4, none⟩ = some a4 ∧ Y.cell? ⟨w.heap.size + 1, 5, none⟩ = some a5 := by
  intro W0 hW
  have hb : Below w.heap.size w W0 := by rw [← hW]; exact (((Below.refl _ _).alloc (by simp) _).alloc (by simp) _)
  refine ⟨hb, fun Y hY => ?_⟩
  have h0 : W0.heap[w.heap.size]? = some (.cells #[v1, v2] 25) := by rw [← hW]; simp only [heap_al, Array.getElem?_push, Array.size_push]; (repeat rw [if_neg (by omega)]); exact if_pos trivial
  have h1 : W0.heap[w.heap.size + 1]? = some (.cells #[a0, a1, a2, a3, a4, a5] 27) := by rw [← hW]; simp only [heap_al, Array.getElem?_push, Array.size_push]; exact if_pos trivial
  have g0 := (hY.block _ (Array.getElem?_eq_some_iff.1 h0).1).trans h0
  have g1 := (hY.block _ (Array.getElem?_eq_some_iff.1 h1).1).trans h1
  refine ⟨cells_two g0, ?_, ?_, ?_, ?_, ?_, ?_⟩ <;> simp [World.cell?, g1]
theorem new4 {w Y : World} {a b c d : Value} {t : TypeId} (h : Below (w.alloc (.cells #[a, b, c, d] t)).heap.size (w.alloc (.cells #[a, b, c, d] t)) Y) : Y.cell? ⟨w.heap.size, 0, none⟩ = some a ∧ Y.cell? ⟨w.heap.size, 1, none⟩ = some b ∧ Y.cell? ⟨w.heap.size, 2, none⟩ = some c ∧ Y.cell? ⟨w.heap.size, 3, none⟩ = some d := by
  have h1 := World.alloc_heap_new w (.cells #[a, b, c, d] t)
  have h2 := (h.block _ (Array.getElem?_eq_some_iff.1 h1).1).trans h1
  refine ⟨?_, ?_, ?_, ?_⟩ <;> simp [World.cell?, h2]
theorem inc_ge {L : List Int} (h : Inc L) (h1 : ∀ y ∈ L, 1 ≤ y) : ∀ (i : Nat) (x : Int), L[i]? = some x → (i : Int) + 1 ≤ x
  | 0, x, hx => by have := h1 x (List.mem_of_getElem? hx); omega
  | i + 1, x, hx => by
    have hi : i < L.length := by have := (List.getElem?_eq_some_iff.1 hx).1; omega
    have h2 := inc_ge h h1 i _ (List.getElem?_eq_getElem hi)
    have h3 := next_of_inc h (List.getElem?_eq_getElem hi) hx
    omega
theorem inc_wide {L : List Int} (h : Inc L) (h1 : ∀ y ∈ L, 1 ≤ y ∧ y ≤ 65535) : L.length ≤ 65535 := by
  cases hl : L.length with
  | zero => omega
  | succ n =>
    have hx : L[n]? = some (L[n]'(by omega)) := List.getElem?_eq_getElem _
    have h2 := inc_ge h (fun y hy => (h1 y hy).1) n _ hx
    have h3 := (h1 _ (List.mem_of_getElem? hx)).2
    omega
/-- what Compose returns -/
def CmQ (M : List Int) (a b R : List (List Int)) (er : Int) : Prop := (CmOk M a b ∧ CmN M a b R ∧ er = 0) ∨ (¬ CmOk M a b ∧ R = [] ∧ er = 1)
theorem cm_post {M : List Int} {a b : List (List Int)} {w w' : World} {e : Ending} (h : CmPost M a b w e w') : ∃ R er, CmQ M a b R er ∧ OutV R er w e w' := by
  rcases h with ⟨h, R, hR, ho⟩ | ⟨h, ho⟩
  · exact ⟨R, 0, .inl ⟨h, hR, rfl⟩, ho⟩
  · exact ⟨[], 1, .inr ⟨h, rfl, rfl⟩, ho⟩
theorem cmQ_one {M : List Int} {a b R S : List (List Int)} {e f : Int} (h : CmQ M a b R e) (h2 : CmQ M a b S f) : S = R ∧ f = e := by
  rcases h with ⟨h, hR, rfl⟩ | ⟨h, rfl, rfl⟩ <;> rcases h2 with ⟨g, hS, rfl⟩ | ⟨g, rfl, rfl⟩
  · exact ⟨cm_one hS hR, rfl⟩
  · exact absurd h g
  · exact absurd g h
  · exact ⟨rfl, rfl⟩
theorem cmQ_small {M : List Int} {a b R : List (List Int)} {e : Int} (h : CmQ M a b R e) (ha : a.length ≤ 1000) : R.length ≤ 1000 ∧ ∀ l ∈ R, l.length ≤ 1000000 := by
  rcases h with ⟨h, hR, rfl⟩ | ⟨h, rfl, rfl⟩
  · refine ⟨by rw [hR.1]; exact ha, fun l hl => ?_⟩
    obtain ⟨i, hi⟩ := List.getElem?_of_mem hl
    have hia : i < a.length := by have := (List.getElem?_eq_some_iff.1 hi).1; have := hR.1; omega
    obtain ⟨h1, h2⟩ := hR.2 i _ l (List.getElem?_eq_getElem hia) hi
    have := inc_wide h1 fun y hy => by
      obtain ⟨z, _, k, bl, _, hb, hyb⟩ := (h2 y).1 hy
      exact (of_decide_eq_true ((List.all_eq_true.1 h.2.2.1) bl (List.mem_of_getElem? hb))).2 y hyb
    omega
  · exact ⟨by simp, fun l hl => nomatch hl⟩
def TnQ (a : List (List Int)) (fr to : List Int) (R : List (List Int)) (er : Int) : Prop := (TnOk a fr to ∧ R = turnF a fr to ∧ er = 0) ∨ (¬ TnOk a fr to ∧ R = [] ∧ er = 1)
theorem tn_post {a : List (List Int)} {fr to : List Int} {w w' : World} {e : Ending} (h : TnPost a fr to w e w') : ∃ R er, TnQ a fr to R er ∧ OutV R er w e w' := by
  rcases h with ⟨h, ho⟩ | ⟨h, ho⟩
  · exact ⟨_, 0, .inl ⟨h, rfl, rfl⟩, ho⟩
  · exact ⟨[], 1, .inr ⟨h, rfl, rfl⟩, ho⟩
theorem tnQ_one {a R S : List (List Int)} {fr to : List Int} {e f : Int} (h : TnQ a fr to R e) (h2 : TnQ a fr to S f) : S = R ∧ f = e := by
  rcases h with ⟨h, rfl, rfl⟩ | ⟨h, rfl, rfl⟩ <;> rcases h2 with ⟨g, rfl, rfl⟩ | ⟨g, rfl, rfl⟩
  · exact ⟨rfl, rfl⟩
  · exact absurd h g
  · exact absurd g h
  · exact ⟨rfl, rfl⟩
theorem tnQ_small {a R : List (List Int)} {fr to : List Int} {e : Int} (h : TnQ a fr to R e) (hf : fr.length ≤ 1000) (ht : to.length ≤ 1000) : R.length ≤ 1000 ∧ ∀ l ∈ R, l.length ≤ 1000000 := by
  rcases h with ⟨h, rfl, rfl⟩ | ⟨h, rfl, rfl⟩
  · refine ⟨by unfold turnF; rw [List.length_map]; exact ht, fun l hl => ?_⟩
    obtain ⟨y, _, rfl⟩ := List.mem_map.1 hl
    have := tr_len y (a.zip fr)
    rw [List.length_zip] at this
    omega
  · exact ⟨by simp, fun l hl => nomatch hl⟩
theorem steps_small {b : Bk} {n m : Int} {R : List (List Int)} {e : Int} (h : stepsOut b n m = (R, e)) : R.length ≤ 1000 ∧ ∀ l ∈ R, l.length ≤ 1000000 := by
  unfold stepsOut at h
  by_cases he : openE b [n, m] = 0
  · rw [if_pos he] at h
    injection h with h _
    obtain ⟨hv, hV⟩ := openE_val he
    have hn := hV n (by simp)
    have hm := hV m (by simp)
    rw [val_len hv] at hn hm
    obtain ⟨k, rfl⟩ : ∃ k : Nat, n = (k : Int) := ⟨n.toNat, by omega⟩
    obtain ⟨j, rfl⟩ : ∃ j : Nat, m = (j : Int) := ⟨m.toNat, by omega⟩
    rw [Int.toNat_natCast, Int.toNat_natCast] at h
    obtain ⟨A, hA, hAi, hAl⟩ := vers_at hv (k := k) (by omega)
    have eA : (vers b).getD k [] = A := by rw [List.getD_eq_getElem?_getD, hA]; rfl
    unfold stF at h
    rw [eA] at h
    subst h
    refine ⟨by rw [List.length_map]; omega, fun l hl => ?_⟩
    obtain ⟨x, hx, rfl⟩ := List.mem_map.1 hl
    obtain ⟨C, hC, i1, i2⟩ := mns_ok hv hA (l := [x]) (by simp [Inc]) (by simp; exact hx) (by omega) (w := j) (by omega)
    have := inc_sub_len i1 i2
    have := (vers_ok C (List.mem_of_getElem? hC)).2
    omega
  · rw [if_neg he] at h
    injection h with h _
    subst h
    exact ⟨by simp, fun l hl => nomatch hl⟩
set_option maxRecDepth 100000 in
set_option maxHeartbeats 40000000 in
theorem NamesSteps_any (v vc u va vb vf vt : Value) (b : Bk) (aV aW aX aY aR : Int) (L : List Int) (A B : List (List Int)) (F T : List Int) (w : World) (hv : BkV w v b vc) (hu : InSl w w.heap.size u L) (hA : VsSl w w.heap.size va A) (hB : VsSl w w.heap.size vb B) (hF : InSl w w.heap.size vf F) (hT : InSl w w.heap.size vt T) :
    Calls Tryz.prog 3 #[v, .agg #[.int .i64 aV, .int .i64 aW, .int .i64 aX, .int .i64 aY, .int .i64 aR, u], .agg #[va, vb, vf, vt]] w fun e w' => e = .returned (.bool true) ∧ Below w.heap.size w w' := by
  have hv0 := hv
  obtain ⟨v1, rfl, h1, h2⟩ := hv
  obtain ⟨A1, c1, rfl, _⟩ := h1.form
  obtain ⟨A2, c2, rfl⟩ := h2.form
  obtain ⟨Au, cu, rfl, _⟩ := hu.form
  obtain ⟨Aa, ca, rfl⟩ := hA.form
  obtain ⟨Ab, cb, rfl⟩ := hB.form
  obtain ⟨Af, cf, rfl, _⟩ := hF.form
  obtain ⟨At, ct, rfl, _⟩ := hT.form
  obtain ⟨W1, hW1⟩ : ∃ W1, (w.alloc (.cells #[.slice A1 b.first.length c1, .slice A2 b.chs.length c2] 25)).alloc (.cells #[.int .i64 aV, .int .i64 aW, .int .i64 aX, .int .i64 aY, .int .i64 aR, .slice Au L.length cu] 27) = W1 := ⟨_, rfl⟩
  obtain ⟨hb1, hcs⟩ := args_cells w _ _ _ _ _ _ _ _ W1 hW1
  have hs1 : W1.heap.size = w.heap.size + 2 := by rw [← hW1]; simp
  obtain ⟨W0, hW0⟩ : ∃ W0, W1.alloc (.cells #[.slice Aa A.length ca, .slice Ab B.length cb, .slice Af F.length cf, .slice At T.length ct] 30) = W0 := ⟨_, rfl⟩
  have hE := below_new (w := W1) (.cells #[.slice Aa A.length ca, .slice Ab B.length cb, .slice Af F.length cf, .slice At T.length ct] 30)
  have hnw := fun Y h => new4 (w := W1) (a := .slice Aa A.length ca) (b := .slice Ab B.length cb) (c := .slice Af F.length cf) (d := .slice At T.length ct) (t := 30) (Y := Y) h
  rw [hs1] at hnw
  rw [hW0] at hE hnw
  have hb0 := hb1.trans (hE.mono hb1.size)
  have HCs := Lib.hid (fun Y (h : Below W0.heap.size W0 Y) => And.intro (hcs Y (hE.trans (h.mono hE.size))) (hnw Y h))
  have HB0 := Lib.hid hb0
  have HBk0 := Lib.hid (fun Y (h : Below W0.heap.size W0 Y) => (hv0.step hb0).step h)
  have HA := Lib.hid (fun Y (h : Below W0.heap.size W0 Y) => show VsSl Y Y.heap.size _ A from (((hA.below hb0).mono hb0.size).below h).mono h.size)
  have HB := Lib.hid (fun Y (h : Below W0.heap.size W0 Y) => show VsSl Y Y.heap.size _ B from (((hB.below hb0).mono hb0.size).below h).mono h.size)
  have HF := Lib.hid (fun Y (h : Below W0.heap.size W0 Y) => (hF.step hb0).step h)
  have HT := Lib.hid (fun Y (h : Below W0.heap.size W0 Y) => (hT.step hb0).step h)
  have HAw := Lib.hid (awake_any W0)
  have HW := Lib.hid (And.intro hW1 hW0)
  obtain ⟨na, hna⟩ : ∃ n, A.length = n := ⟨_, rfl⟩
  obtain ⟨nb, hnb⟩ : ∃ n, B.length = n := ⟨_, rfl⟩
  obtain ⟨nf, hnf⟩ : ∃ n, F.length = n := ⟨_, rfl⟩
  obtain ⟨nt, hnt⟩ : ∃ n, T.length = n := ⟨_, rfl⟩
  have HN := Lib.hid (And.intro hna (And.intro hnb (And.intro hnf hnt)))
  rw [hna, hnb, hnf, hnt] at HCs HW
  rw [hna] at HA
  rw [hnb] at HB
  rw [hnf] at HF
  rw [hnt] at HT
  rw [hna, hnb, hnf, hnt]
  clear hv0 h1 h2 hu hA hB hF hT hb0 hb1 hcs hE hnw hs1 hW1 hW0 hna hnb hnf hnt
  go_enter Tryz.func3, Tryz.ntmps3
  go_wp2_with fail
  rw [HW.out.1, HW.out.2]
  (with_reducible refine HAw.out.mono ?_)
  rintro e Y1 ⟨rfl, hb⟩
  have HB1 := Lib.hid hb
  have HSm := Lib.hid (small_any _ _ b Y1 (HBk0.out Y1 hb))
  obtain ⟨⟨⟨k0, k1⟩, q0, q1, q2, q3, q4, q5⟩, x0, x1, x2, x3⟩ := HCs.out Y1 hb
  clear hb HAw HW
  go_wp2_with fail
  (with_reducible refine HSm.out.mono ?_)
  rintro e Y2 ⟨⟨r, rfl, hs⟩, hb⟩
  have HB2 := Lib.hid (HB1.out.trans (hb.mono HB1.out.size))
  have HS := Lib.hid hs
  clear k0 k1 q0 q1 q2 q3 q4 q5 x0 x1 x2 x3 hb HSm HB1 hs
  obtain ⟨⟨⟨k0, k1⟩, q0, q1, q2, q3, q4, q5⟩, x0, x1, x2, x3⟩ := HCs.out Y2 HB2.out
  have HBe := Lib.hid (HB0.out.trans (HB2.out.mono HB0.out.size))
  cases r with
  | false =>
    go_wp2_with fail
    go_ret
    exact ⟨rfl, HBe.out⟩
  | true =>
  have HS1 := Lib.hid (HS.out rfl)
  have HBa := Lib.hid (brief_any _ A Y2 (HA.out Y2 HB2.out))
  have HBb := Lib.hid (brief_any _ B Y2 (HB.out Y2 HB2.out))
  clear HS
  go_wp2_with fail
  (with_reducible refine HBa.out.mono ?_)
  rintro e Y3 ⟨r1, rfl, rfl, hr1⟩
  have HR1 := Lib.hid hr1
  clear hr1
  cases r1 with
  | false =>
    go_wp2_with fail
    go_ret
    exact ⟨rfl, HBe.out⟩
  | true =>
  go_wp2_with fail
  (with_reducible refine HBb.out.mono ?_)
  rintro e Y3 ⟨r2, rfl, rfl, hr2⟩
  have HR2 := Lib.hid hr2
  clear hr2
  cases r2 with
  | false =>
    go_wp2_with fail
    go_ret
    exact ⟨rfl, HBe.out⟩
  | true =>
  by_cases hf5 : 500 < nf
  · have q1 : (500 : Int) < (nf : Int) := by omega
    clear hf5
    go_wp2_with fail
    go_ret
    exact ⟨rfl, HBe.out⟩
  have q1f : ¬ (500 : Int) < (nf : Int) := by omega
  by_cases ht5 : 500 < nt
  · have q1 : (500 : Int) < (nt : Int) := by omega
    clear ht5
    go_wp2_with fail
    go_ret
    exact ⟨rfl, HBe.out⟩
  have q1t : ¬ (500 : Int) < (nt : Int) := by omega
  have HL := Lib.hid (show (A.length ≤ 1000 ∧ ∀ l ∈ A, l.length ≤ 1000) ∧ (B.length ≤ 1000 ∧ ∀ l ∈ B, l.length ≤ 1000) ∧ F.length ≤ 1000 ∧ T.length ≤ 1000 from
    ⟨⟨by have := (HR1.out (by first | trivial | rfl)).1; omega, fun l hl => Nat.le_trans ((HR1.out (by first | trivial | rfl)).2 l hl) (by omega)⟩, ⟨by have := (HR2.out (by first | trivial | rfl)).1; omega, fun l hl => Nat.le_trans ((HR2.out (by first | trivial | rfl)).2 l hl) (by omega)⟩, by have := HN.out.2.2.1; omega, by have := HN.out.2.2.2; omega⟩)
  obtain ⟨⟨oR, oE⟩, ho⟩ : ∃ o, stepsOut b aV aW = o := ⟨_, rfl⟩
  have HOs := Lib.hid (steps_small ho)
  have hC1 := fun Y (h : Below W0.heap.size W0 Y) => Steps_any _ _ b aV aW Y (HBk0.out Y h) HS1.out
  have hC2 := fun Y (h : Below W0.heap.size W0 Y) => rSteps_any _ _ b aV aW Y (HBk0.out Y h) HS1.out
  simp only [ho] at hC1 hC2
  have HC1 := Lib.hid hC1
  have HC2 := Lib.hid hC2
  have hC3 := fun Y (h : Below W0.heap.size W0 Y) => Compose_any _ _ _ A B T Y (HA.out Y h) (HB.out Y h) (HT.out Y h) HL.out.1.1 HL.out.2.1.1 HL.out.2.2.2 HL.out.1.2 HL.out.2.1.2
  have hC4 := fun Y (h : Below W0.heap.size W0 Y) => rCompose_any _ _ _ A B T Y (HA.out Y h) (HB.out Y h) (HT.out Y h) HL.out.1.1 HL.out.2.1.1 HL.out.2.2.2 HL.out.1.2 HL.out.2.1.2
  have hC5 := fun Y (h : Below W0.heap.size W0 Y) => Turn_any _ _ _ A F T Y (HA.out Y h) (HF.out Y h) (HT.out Y h) HL.out.1.1 HL.out.2.2.1 HL.out.2.2.2 HL.out.1.2
  have hC6 := fun Y (h : Below W0.heap.size W0 Y) => rTurn_any _ _ _ A F T Y (HA.out Y h) (HF.out Y h) (HT.out Y h) HL.out.1.1 HL.out.2.2.1 HL.out.2.2.2 HL.out.1.2
  have HC3 := Lib.hid hC3
  have HC4 := Lib.hid hC4
  have HC5 := Lib.hid hC5
  have HC6 := Lib.hid hC6
  clear ho hC1 hC2 hC3 hC4 hC5 hC6 hf5 ht5 HBa HBb HR1 HR2
  have HCc := Lib.hid (HC1.out _ HB2.out)
  go_wp2_with fail
  (with_reducible refine HCc.out.mono ?_)
  rintro e Z1 ⟨⟨un1, rfl, hn⟩, hb⟩
  obtain ⟨An1, cn1, rfl⟩ := hn.form
  have HN1 := Lib.hid hn
  clear hn
  have HB3 := Lib.hid (HB2.out.trans (hb.mono HB2.out.size))
  clear k0 k1 q0 q1 q2 q3 q4 q5 x0 x1 x2 x3 hb HCc HC1
  obtain ⟨⟨⟨k0, k1⟩, q0, q1, q2, q3, q4, q5⟩, x0, x1, x2, x3⟩ := HCs.out Z1 HB3.out
  have HCc := Lib.hid (HC2.out _ HB3.out)
  go_wp2_with fail
  (with_reducible refine HCc.out.mono ?_)
  rintro e Z2 ⟨⟨un2, rfl, hn⟩, hb⟩
  obtain ⟨An2, cn2, rfl⟩ := hn.form
  have HN2 := Lib.hid hn
  clear hn
  have HB4 := Lib.hid (HB3.out.trans (hb.mono HB3.out.size))
  have HN1 := Lib.hid ((HN1.out.below hb).mono hb.size)
  clear k0 k1 q0 q1 q2 q3 q4 q5 x0 x1 x2 x3 hb HCc HC2
  obtain ⟨⟨⟨k0, k1⟩, q0, q1, q2, q3, q4, q5⟩, x0, x1, x2, x3⟩ := HCs.out Z2 HB4.out
  have HCc := Lib.hid (HC3.out _ HB4.out)
  go_wp2_with fail
  (with_reducible refine HCc.out.mono ?_)
  rintro e Z3 hp
  obtain ⟨R3, e3, hq3, ⟨un3, rfl, hn⟩, hb⟩ := cm_post hp
  have HQ3 := Lib.hid hq3
  clear hp hq3
  obtain ⟨An3, cn3, rfl⟩ := hn.form
  have HN3 := Lib.hid hn
  clear hn
  have HB5 := Lib.hid (HB4.out.trans (hb.mono HB4.out.size))
  have HN1 := Lib.hid ((HN1.out.below hb).mono hb.size)
  have HN2 := Lib.hid ((HN2.out.below hb).mono hb.size)
  clear k0 k1 q0 q1 q2 q3 q4 q5 x0 x1 x2 x3 hb HCc HC3
  obtain ⟨⟨⟨k0, k1⟩, q0, q1, q2, q3, q4, q5⟩, x0, x1, x2, x3⟩ := HCs.out Z3 HB5.out
  have HCc := Lib.hid (HC4.out _ HB5.out)
  go_wp2_with fail
  (with_reducible refine HCc.out.mono ?_)
  rintro e Z4 hp
  obtain ⟨R4, e4, hq4, ⟨un4, rfl, hn⟩, hb⟩ := cm_post hp
  have HQ4 := Lib.hid hq4
  clear hp hq4
  obtain ⟨An4, cn4, rfl⟩ := hn.form
  have HN4 := Lib.hid hn
  clear hn
  have HB6 := Lib.hid (HB5.out.trans (hb.mono HB5.out.size))
  have HN1 := Lib.hid ((HN1.out.below hb).mono hb.size)
  have HN2 := Lib.hid ((HN2.out.below hb).mono hb.size)
  have HN3 := Lib.hid ((HN3.out.below hb).mono hb.size)
  clear k0 k1 q0 q1 q2 q3 q4 q5 x0 x1 x2 x3 hb HCc HC4
  obtain ⟨⟨⟨k0, k1⟩, q0, q1, q2, q3, q4, q5⟩, x0, x1, x2, x3⟩ := HCs.out Z4 HB6.out
  obtain ⟨rfl, rfl⟩ := cmQ_one HQ3.out HQ4.out
  have HM3 := Lib.hid (cmQ_small HQ3.out HL.out.1.1)
  clear HQ3 HQ4
  have HCc := Lib.hid (HC5.out _ HB6.out)
  go_wp2_with fail
  (with_reducible refine HCc.out.mono ?_)
  rintro e Z5 hp
  obtain ⟨R5, e5, hq5, ⟨un5, rfl, hn⟩, hb⟩ := tn_post hp
  have HQ5 := Lib.hid hq5
  clear hp hq5
  obtain ⟨An5, cn5, rfl⟩ := hn.form
  have HN5 := Lib.hid hn
  clear hn
  have HB7 := Lib.hid (HB6.out.trans (hb.mono HB6.out.size))
  have HN1 := Lib.hid ((HN1.out.below hb).mono hb.size)
  have HN2 := Lib.hid ((HN2.out.below hb).mono hb.size)
  have HN3 := Lib.hid ((HN3.out.below hb).mono hb.size)
  have HN4 := Lib.hid ((HN4.out.below hb).mono hb.size)
  clear k0 k1 q0 q1 q2 q3 q4 q5 x0 x1 x2 x3 hb HCc HC5
  obtain ⟨⟨⟨k0, k1⟩, q0, q1, q2, q3, q4, q5⟩, x0, x1, x2, x3⟩ := HCs.out Z5 HB7.out
  have HCc := Lib.hid (HC6.out _ HB7.out)
  go_wp2_with fail
  (with_reducible refine HCc.out.mono ?_)
  rintro e Z6 hp
  obtain ⟨R6, e6, hq6, ⟨un6, rfl, hn⟩, hb⟩ := tn_post hp
  have HQ6 := Lib.hid hq6
  clear hp hq6
  obtain ⟨An6, cn6, rfl⟩ := hn.form
  have HN6 := Lib.hid hn
  clear hn
  have HB8 := Lib.hid (HB7.out.trans (hb.mono HB7.out.size))
  have HN1 := Lib.hid ((HN1.out.below hb).mono hb.size)
  have HN2 := Lib.hid ((HN2.out.below hb).mono hb.size)
  have HN3 := Lib.hid ((HN3.out.below hb).mono hb.size)
  have HN4 := Lib.hid ((HN4.out.below hb).mono hb.size)
  have HN5 := Lib.hid ((HN5.out.below hb).mono hb.size)
  clear k0 k1 q0 q1 q2 q3 q4 q5 x0 x1 x2 x3 hb HCc HC6
  obtain ⟨⟨⟨k0, k1⟩, q0, q1, q2, q3, q4, q5⟩, x0, x1, x2, x3⟩ := HCs.out Z6 HB8.out
  obtain ⟨rfl, rfl⟩ := tnQ_one HQ5.out HQ6.out
  have HM5 := Lib.hid (tnQ_small HQ5.out HL.out.2.2.1 HL.out.2.2.2)
  clear HQ5 HQ6 k0 k1 q0 q1 q2 q3 q4 q5 x0 x1 x2 x3
  have HBx := Lib.hid (HB0.out.trans (HB8.out.mono HB0.out.size))
  have HL1 := Lib.hid (SameLists_any _ _ oR oR Z6 HN1.out HN2.out (by have := HOs.out.1; omega) HOs.out.2 HOs.out.2)
  rw [decide_eq_true rfl] at HL1
  go_wp2_with fail
  (with_reducible refine HL1.out.mono ?_)
  rintro e Z7 ⟨rfl, hb⟩
  have HL2 := Lib.hid (SameLists_any _ _ R4 R4 Z7 ((HN3.out.below hb).mono hb.size) ((HN4.out.below hb).mono hb.size) (by have := HM3.out.1; omega) HM3.out.2 HM3.out.2)
  rw [decide_eq_true rfl] at HL2
  have HBy := Lib.hid (HBx.out.trans (hb.mono HBx.out.size))
  have HN5 := Lib.hid ((HN5.out.below hb).mono hb.size)
  have HN6 := Lib.hid ((HN6.out.below hb).mono hb.size)
  clear hb HL1
  go_wp2_with fail
  (with_reducible refine HL2.out.mono ?_)
  rintro e Z8 ⟨rfl, hb⟩
  have HL3 := Lib.hid (SameLists_any _ _ R6 R6 Z8 ((HN5.out.below hb).mono hb.size) ((HN6.out.below hb).mono hb.size) (by have := HM5.out.1; omega) HM5.out.2 HM5.out.2)
  rw [decide_eq_true rfl] at HL3
  have HBz := Lib.hid (HBy.out.trans (hb.mono HBy.out.size))
  clear hb HL2
  go_wp2_with fail
  (with_reducible refine HL3.out.mono ?_)
  rintro e Z9 ⟨rfl, hb⟩
  have HBq := Lib.hid (HBz.out.trans (hb.mono HBz.out.size))
  clear hb
  go_wp2_with fail
  go_ret
  exact ⟨by simp, HBq.out⟩
end Go.Proofs.YtplpogonkfnafaaGreat
