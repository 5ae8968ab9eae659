/- Rules in memory; which are valid: the program. -/
import Derived.Test.YtijidcigfdblaaaGreatDoorShDm
import Derived.Test.YtijidcigfdblaaaGreatDoorShTa
namespace Go.Proofs.YtijidcigfdblaaaGreatDoor
open Go.RowKit Go.Nm Go.Sh Go.Plc

/-- the cells of a rule at p -/
def RlC (Y : World) (p : Addr) (r : Rl) (As : Option Addr) (cs : Nat) : Prop :=
  (Y.cell? p = some (.int .i64 r.nm) ∧ Y.cell? ⟨p.block, p.off + 1, none⟩ = some (.slice As r.rg.length cs) ∧ Y.cell? ⟨p.block, p.off + 2, none⟩ = some (.int .i64 r.fr) ∧ Y.cell? ⟨p.block, p.off + 3, none⟩ = some (.int .i64 r.to) ∧ Y.cell? ⟨p.block, p.off + 4, none⟩ = some (.int .i64 r.mo)) ∧ SqSl Y Y.heap.size (.slice As r.rg.length cs) r.rg
def RlA (w : World) (B : Nat) (A : Option Addr) (L : List Rl) : Prop :=
  ∀ (i : Nat) (r : Rl), L[i]? = some r → ∃ ad As cs, A = some ad ∧ ad.block < B ∧ w.cell? (ad.add (i * 5)) = some (.int .i64 r.nm) ∧ w.cell? ⟨(ad.add (i * 5)).block, (ad.add (i * 5)).off + 1, none⟩ = some (.slice As r.rg.length cs) ∧
    w.cell? ⟨(ad.add (i * 5)).block, (ad.add (i * 5)).off + 2, none⟩ = some (.int .i64 r.fr) ∧ w.cell? ⟨(ad.add (i * 5)).block, (ad.add (i * 5)).off + 3, none⟩ = some (.int .i64 r.to) ∧ w.cell? ⟨(ad.add (i * 5)).block, (ad.add (i * 5)).off + 4, none⟩ = some (.int .i64 r.mo) ∧ SqSl w B (.slice As r.rg.length cs) r.rg
def RlSl (w : World) (B : Nat) (v : Value) (L : List Rl) : Prop := ∃ A c, v = .slice A L.length c ∧ RlA w B A L
section
variable {w w' : World} {B B' : Nat} {A : Option Addr} {L : List Rl} {v : Value}
theorem RlA.below (h : RlA w B A L) (hb : Below B w w') : RlA w' B A L := fun i c hc => by
  obtain ⟨ad, As, cs, e, h1, h2, h3, h4, h5, h6, h7⟩ := h i c hc
  have hB : (ad.add (i * 5)).block < B := by rw [add_block]; exact h1
  exact ⟨ad, As, cs, e, h1, (hb.cell hB).trans h2, (hb.cell (p := ⟨(ad.add (i * 5)).block, _, none⟩) hB).trans h3, (hb.cell (p := ⟨(ad.add (i * 5)).block, _, none⟩) hB).trans h4, (hb.cell (p := ⟨(ad.add (i * 5)).block, _, none⟩) hB).trans h5, (hb.cell (p := ⟨(ad.add (i * 5)).block, _, none⟩) hB).trans h6, h7.below hb⟩
theorem RlA.mono (h : RlA w B A L) (hB : B ≤ B') : RlA w B' A L := fun i c hc => by
  obtain ⟨ad, As, cs, e, h1, h2, h3, h4, h5, h6, h7⟩ := h i c hc
  exact ⟨ad, As, cs, e, by omega, h2, h3, h4, h5, h6, h7.mono hB⟩
theorem RlSl.step (h : RlSl w w.heap.size v L) (hb : Below w.heap.size w w') : RlSl w' w'.heap.size v L := by
  obtain ⟨A, c, e, h⟩ := h; exact ⟨A, c, e, (h.below hb).mono hb.size⟩
theorem RlSl.form (h : RlSl w B v L) : ∃ A c, v = .slice A L.length c := by
  obtain ⟨A, c, e, _⟩ := h; exact ⟨A, c, e⟩
theorem RlSl.at_ {n c : Nat} (h : RlSl w w.heap.size (.slice A n c) L) {i : Nat} (hi : i < n) : ∃ r ad As cs, L[i]? = some r ∧ A = some ad ∧ ∀ Y, Below w.heap.size w Y → RlC Y (ad.add (i * 5)) r As cs := by
  obtain ⟨A', c', e, h2⟩ := h
  injection e with e1 e2 e3
  subst e1; subst e3
  have hi' : i < L.length := by omega
  have hr : L[i]? = some L[i] := List.getElem?_eq_getElem hi'
  obtain ⟨ad, As, cs, e, h3, h4, h5, h6, h7, h8, h9⟩ := h2 i _ hr
  have hB : (ad.add (i * 5)).block < w.heap.size := by rw [add_block]; exact h3
  exact ⟨_, ad, As, cs, hr, e, fun Y hY => ⟨⟨(hY.cell hB).trans h4, (hY.cell (p := ⟨(ad.add (i * 5)).block, _, none⟩) hB).trans h5, (hY.cell (p := ⟨(ad.add (i * 5)).block, _, none⟩) hB).trans h6, (hY.cell (p := ⟨(ad.add (i * 5)).block, _, none⟩) hB).trans h7, (hY.cell (p := ⟨(ad.add (i * 5)).block, _, none⟩) hB).trans h8⟩, (h9.below hY).mono hY.size⟩⟩
end
def rlV (r : Rl) (vr : Value) : Value := .agg #[.int .i64 r.nm, vr, .int .i64 r.fr, .int .i64 r.to, .int .i64 r.mo]
theorem cells_five {w : World} {g : Nat} {a b c d e : Value} {t : TypeId} (h : w.heap[g]? = some (.cells #[a, b, c, d, e] t)) : w.cell? ⟨g, 0, none⟩ = some a ∧ w.cell? ⟨g, 1, none⟩ = some b ∧ w.cell? ⟨g, 2, none⟩ = some c ∧ w.cell? ⟨g, 3, none⟩ = some d ∧ w.cell? ⟨g, 4, none⟩ = some e := by
  refine ⟨?_, ?_, ?_, ?_, ?_⟩ <;> simp [World.cell?, h]
theorem ruleName_any (r : Rl) (vr : Value) (w : World) : Calls Tryz.prog 113 #[rlV r vr] w fun e w' => e = .returned (.int .i64 r.nm) ∧ Below w.heap.size w w' := by
  have hb := below_new (w := w) (.cells #[.int .i64 r.nm, vr, .int .i64 r.fr, .int .i64 r.to, .int .i64 r.mo] 92)
  have hn := World.alloc_heap_new w (.cells #[.int .i64 r.nm, vr, .int .i64 r.fr, .int .i64 r.to, .int .i64 r.mo] 92)
  have HB := Lib.hid hb
  obtain ⟨c0, c1, c2, c3, c4⟩ := cells_five hn
  unfold rlV
  clear hb hn
  go_enter Tryz.func113, Tryz.ntmps113
  go_wp2_with fail
  go_ret
  exact ⟨rfl, HB.out⟩
theorem ids_next {a x : Int} {L : List Int} {i : Nat} (h : L[i]? = some x) : idsF a (L.drop i) = if x ≤ a ∨ 65535 < x then false else idsF x (L.drop (i + 1)) := by
  obtain ⟨hi, e⟩ := List.getElem?_eq_some_iff.1 h
  rw [List.drop_eq_getElem_cons hi, e]
  rfl
set_option maxRecDepth 100000 in
set_option maxHeartbeats 4000000 in
theorem areIDs_any (v : Value) (L : List Rl) (w : World) (hv : RlSl w w.heap.size v L) (hl : L.length ≤ 1000000) : Calls Tryz.prog 118 #[v, .func (.func 113) #[] #[]] w fun e w' => e = .returned (.bool (idsF 0 (rlN L))) ∧ Below w.heap.size w w' := by
  have HV := Lib.hid hv
  obtain ⟨A, c, rfl⟩ := hv.form
  obtain ⟨n, hn⟩ : ∃ n, L.length = n := ⟨_, rfl⟩
  have HN := Lib.hid hn
  obtain ⟨q, hq⟩ : ∃ q, idsF 0 (rlN L) = q := ⟨_, rfl⟩
  have HQ := Lib.hid hq
  rw [hq]
  rw [hn] at HV hl ⊢
  clear hv hn hq
  go_enter Tryz.func118, Tryz.ntmps118
  go_wp2_with fail
  go_loopw [5, 11] (fun lv iv wr => ∃ (i : Nat) (a : Int), iv = .int .i64 (i : Int) ∧ lv = .int .i64 a ∧ i ≤ n ∧ idsF a ((rlN L).drop i) = q ∧ Below w.heap.size w wr) (fun _ iv _ => n - (intOf iv).toNat)
  case atStart => exact ⟨0, 0, rfl, rfl, by omega, HQ.out, Below.refl _ _⟩
  case round =>
    obtain ⟨i, a, rfl, rfl, hin, hid, hb⟩ := hrel
    have HI := Lib.hid hid
    have HB := Lib.hid hb
    by_cases hlt : i < n
    · obtain ⟨r, ad, As, cs, hr, rfl, hY⟩ := HV.out.at_ hlt
      obtain ⟨⟨l0, l1, l2, l3, l4⟩, _⟩ := hY wr hb
      have hnm : (rlN L)[i]? = some r.nm := by unfold rlN; rw [List.getElem?_map, hr]; rfl
      have HNx := Lib.hid (show (if r.nm ≤ a ∨ 65535 < r.nm then false else idsF r.nm ((rlN L).drop (i + 1))) = q from by rw [← ids_next hnm]; exact hid)
      have hbn := below_new (w := wr) (.cells #[.int .i64 r.nm, .slice As r.rg.length cs, .int .i64 r.fr, .int .i64 r.to, .int .i64 r.mo] 92)
      have hnn := World.alloc_heap_new wr (.cells #[.int .i64 r.nm, .slice As r.rg.length cs, .int .i64 r.fr, .int .i64 r.to, .int .i64 r.mo] 92)
      obtain ⟨V, hV⟩ : ∃ V, wr.alloc (.cells #[.int .i64 r.nm, .slice As r.rg.length cs, .int .i64 r.fr, .int .i64 r.to, .int .i64 r.mo] 92) = V := ⟨_, rfl⟩
      rw [hV] at hbn hnn
      obtain ⟨m0, m1, m2, m3, m4⟩ := cells_five hnn
      have HRn := Lib.hid (ruleName_any r (.slice As r.rg.length cs) V)
      unfold rlV at HRn
      have HBV := Lib.hid (HB.out.trans (hbn.mono HB.out.size))
      clear hr hY hid hb hnm hbn hnn
      go_wp2_with fail
      refine HRn.out.mono ?_
      rintro e w2 ⟨rfl, hb2⟩
      have HB2 := Lib.hid (HBV.out.trans (hb2.mono HBV.out.size))
      clear hb2 m0 m1 m2 m3 m4 l0 l1 l2 l3 l4
      by_cases h1 : r.nm ≤ a
      · have HF := Lib.hid (show q = false from by rw [← HNx.out, if_pos (.inl h1)])
        go_wp2_with fail
        go_ret
        exact ⟨by rw [HF.out]; rfl, HB2.out⟩
      · by_cases h2 : 65535 < r.nm
        · have HF := Lib.hid (show q = false from by rw [← HNx.out, if_pos (.inr h2)])
          go_wp2_with fail
          go_ret
          exact ⟨by rw [HF.out]; rfl, HB2.out⟩
        · have HF := Lib.hid (show idsF r.nm ((rlN L).drop (i + 1)) = q from by rw [← HNx.out, if_neg (by omega)])
          go_wp2_with fail
          go_roundw
          case rel => exact ⟨i + 1, r.nm, by go_num, rfl, by omega, HF.out, HB2.out⟩
          case measure => simp [intOf]; omega
    · obtain rfl : n = i := by omega
      have HF := Lib.hid (show q = true from by
        have h := HI.out
        rw [List.drop_eq_nil_of_le (by unfold rlN; rw [List.length_map, HN.out]; exact Nat.le_refl _)] at h
        exact h.symm)
      clear hid hb
      go_wp2_with fail
      go_ret
      exact ⟨by rw [HF.out]; rfl, HB.out⟩
theorem rl_next {L : List Rl} {i : Nat} {r : Rl} (h : L[i]? = some r) : (L.take (i + 1)).all rlB = ((L.take i).all rlB && rlB r) := by
  rw [show L.take (i + 1) = L.take i ++ [r] from by rw [List.take_add_one, h]; rfl, List.all_append]
  simp
theorem rl_false {L : List Rl} {i : Nat} {r : Rl} (h : L[i]? = some r) (hr : rlB r = false) : L.all rlB = false := by
  rw [List.all_eq_false]
  exact ⟨r, List.mem_of_getElem? h, by simp [hr]⟩
set_option maxRecDepth 100000 in
set_option maxHeartbeats 8000000 in
theorem CheckRules_any (v : Value) (L : List Rl) (w : World) (hv : RlSl w w.heap.size v L) (hl : L.length ≤ 1000000) (hrg : ∀ r ∈ L, r.rg.length ≤ 1000000 ∧ i64B r.fr ∧ i64B r.to) (hG : GlO w) : Calls Tryz.prog 52 #[v] w fun e w' => e = .returned (.int .i64 (rlsE L)) ∧ Below w.heap.size w w' := by
  have HA := Lib.hid (areIDs_any v L w hv hl)
  have HV := Lib.hid hv
  obtain ⟨A, c, rfl⟩ := hv.form
  obtain ⟨n, hn⟩ : ∃ n, L.length = n := ⟨_, rfl⟩
  have HN := Lib.hid hn
  have HG := Lib.hid hG
  have HRg := Lib.hid hrg
  obtain ⟨ib, hib⟩ : ∃ q, idsF 0 (rlN L) = q := ⟨_, rfl⟩
  obtain ⟨e0, he0⟩ : ∃ q, rlsE L = q := ⟨_, rfl⟩
  have HE := Lib.hid (show e0 = if ((decide (n ≤ 400) && ib) && L.all rlB) = true then 0 else 42 from by rw [← he0, ← hn, ← hib]; rfl)
  rw [hib] at HA
  rw [he0]
  rw [hn] at HV HA hl ⊢
  clear hv hn hib he0 hG hrg
  by_cases h400 : 400 < n
  · have HF := Lib.hid (show e0 = 42 from by rw [HE.out, show decide (n ≤ 400) = false from decide_eq_false (by omega)]; simp)
    have h4i : (400 : Int) < (n : Int) := by omega
    go_enter Tryz.func52, Tryz.ntmps52
    go_wp2_with fail
    go_ret
    exact ⟨by rw [HF.out]; rfl, Below.refl _ _⟩
  · have h4i : ¬ (400 : Int) < (n : Int) := by omega
    have HE2 := Lib.hid (show e0 = if (ib && L.all rlB) = true then 0 else 42 from by rw [HE.out, show decide (n ≤ 400) = true from decide_eq_true (by omega), Bool.true_and])
    clear HE h400
    cases ib with
    | false =>
      have HF := Lib.hid (show e0 = 42 from by rw [HE2.out]; simp)
      go_enter Tryz.func52, Tryz.ntmps52
      go_wp2_with fail
      refine HA.out.mono ?_
      rintro e w1 ⟨rfl, hb⟩
      have HB1 := Lib.hid hb
      clear hb
      go_wp2_with fail
      go_ret
      exact ⟨by rw [HF.out]; rfl, HB1.out⟩
    | true =>
      have HE3 := Lib.hid (show e0 = if L.all rlB = true then 0 else 42 from by rw [HE2.out, Bool.true_and])
      clear HE2
      go_enter Tryz.func52, Tryz.ntmps52
      go_wp2_with fail
      refine HA.out.mono ?_
      rintro e w1 ⟨rfl, hb⟩
      have HB1 := Lib.hid hb
      clear hb HA
      go_wp2_with fail
      go_loopw [15] (fun iv wr => ∃ i : Nat, iv = .int .i64 (i : Int) ∧ i ≤ n ∧ (L.take i).all rlB = true ∧ Below w.heap.size w wr) (fun iv _ => n - (intOf iv).toNat)
      case atStart => exact ⟨0, rfl, by omega, by simp, HB1.out⟩
      case round =>
        obtain ⟨i, rfl, hin, hal, hb⟩ := hrel
        have HAl := Lib.hid hal
        have HB := Lib.hid hb
        by_cases hlt : i < n
        · obtain ⟨r, ad, As, cs, hr, rfl, hY⟩ := HV.out.at_ hlt
          obtain ⟨⟨l0, l1, l2, l3, l4⟩, hsq⟩ := hY wr hb
          obtain ⟨hr1, hr2, hr3⟩ := HRg.out r (List.mem_of_getElem? hr)
          have hbn := below_new (w := wr) (.cells #[.int .i64 r.nm, .slice As r.rg.length cs, .int .i64 r.fr, .int .i64 r.to, .int .i64 r.mo] 92)
          have hnn := World.alloc_heap_new wr (.cells #[.int .i64 r.nm, .slice As r.rg.length cs, .int .i64 r.fr, .int .i64 r.to, .int .i64 r.mo] 92)
          obtain ⟨V, hV⟩ : ∃ V, wr.alloc (.cells #[.int .i64 r.nm, .slice As r.rg.length cs, .int .i64 r.fr, .int .i64 r.to, .int .i64 r.mo] 92) = V := ⟨_, rfl⟩
          rw [hV] at hbn hnn
          have HNn := Lib.hid hnn
          obtain ⟨m0, m1, m2, m3, m4⟩ := cells_five hnn
          have HX := Lib.hid hr
          have HBV := Lib.hid (HB.out.trans (hbn.mono HB.out.size))
          have HC1 := Lib.hid (between_any r.mo 0 100000 V)
          have HC2 := Lib.hid (ValidSeason_any r.fr r.to V (HG.out.below HBV.out).md hr2.1 hr2.2 hr3.1 hr3.2)
          have HC3 := Lib.hid (fun Y (h : Below V.heap.size V Y) => ValidRegion_any (.slice As r.rg.length cs) r.rg Y ((hY Y (HBV.out.trans (h.mono HBV.out.size))).2) hr1)
          obtain ⟨b1, hb1⟩ : ∃ q, betB r.mo 0 100000 = q := ⟨_, rfl⟩
          obtain ⟨b2, hb2⟩ : ∃ q, (vday r.fr && vday r.to) = q := ⟨_, rfl⟩
          obtain ⟨b3, hb3⟩ : ∃ q, regB r.rg = q := ⟨_, rfl⟩
          have HRb := Lib.hid (show rlB r = ((b1 && b2) && b3) from by unfold rlB; rw [hb1, hb2, hb3])
          rw [hb1] at HC1; rw [hb2] at HC2; rw [hb3] at HC3
          clear hr hY hsq hal hb hbn hnn hr1 hr2 hr3 hb1 hb2 hb3
          cases b1 with
          | false =>
            have HF := Lib.hid (show e0 = 42 from by rw [HE3.out, rl_false HX.out (by rw [HRb.out]; rfl)]; simp)
            go_wp2_with fail
            refine HC1.out.mono ?_
            rintro e w2 ⟨rfl, rfl⟩
            go_wp2_with fail
            go_ret
            exact ⟨by rw [HF.out]; rfl, HBV.out⟩
          | true =>
            cases b2 with
            | false =>
              have HF := Lib.hid (show e0 = 42 from by rw [HE3.out, rl_false HX.out (by rw [HRb.out]; rfl)]; simp)
              go_wp2_with fail
              refine HC1.out.mono ?_
              rintro e w2 ⟨rfl, rfl⟩
              go_wp2_with fail
              refine HC2.out.mono ?_
              rintro e w3 ⟨rfl, hb3⟩
              have HB3 := Lib.hid (HBV.out.trans (hb3.mono HBV.out.size))
              clear hb3
              go_wp2_with fail
              go_ret
              exact ⟨by rw [HF.out]; rfl, HB3.out⟩
            | true =>
              go_wp2_with fail
              refine HC1.out.mono ?_
              rintro e w2 ⟨rfl, rfl⟩
              go_wp2_with fail
              refine HC2.out.mono ?_
              rintro e w3 ⟨rfl, hb3⟩
              have HB3 := Lib.hid (HBV.out.trans (hb3.mono HBV.out.size))
              obtain ⟨p0, p1, p2, p3, p4⟩ := cells_five ((hb3.block _ (Array.getElem?_eq_some_iff.1 HNn.out).1).trans HNn.out)
              have HC4 := Lib.hid (HC3.out w3 hb3)
              clear hb3 m0 m1 m2 m3 m4 HC1 HC2 HC3
              go_wp2_with fail
              refine HC4.out.mono ?_
              rintro e w4 ⟨rfl, hb4⟩
              have HB4 := Lib.hid (HB3.out.trans (hb4.mono HB3.out.size))
              clear hb4 p0 p1 p2 p3 p4 HC4
              cases b3 with
              | false =>
                have HF := Lib.hid (show e0 = 42 from by rw [HE3.out, rl_false HX.out (by rw [HRb.out]; rfl)]; simp)
                go_wp2_with fail
                go_ret
                exact ⟨by rw [HF.out]; rfl, HB4.out⟩
              | true =>
                have HT := Lib.hid (show (L.take (i + 1)).all rlB = true from by rw [rl_next HX.out, HAl.out, HRb.out]; rfl)
                go_wp2_with fail
                go_roundw
                case rel => exact ⟨i + 1, by go_num, by omega, HT.out, HB4.out⟩
                case measure => simp [intOf]; omega
        · obtain rfl : n = i := by omega
          have HF := Lib.hid (show e0 = 0 from by
            have h := HAl.out
            rw [List.take_of_length_le (by rw [HN.out]; exact Nat.le_refl _)] at h
            rw [HE3.out, if_pos h])
          clear hal hb
          go_wp2_with fail
          go_ret
          exact ⟨by rw [HF.out]; rfl, HB.out⟩
end Go.Proofs.YtijidcigfdblaaaGreatDoor
