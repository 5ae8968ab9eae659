/- Where the rule of a name stands: the program. -/
import Derived.Test.YtijidcigfdblaaaGreatDoorShDa
namespace Go.Proofs.YtijidcigfdblaaaGreatDoor
open Go.RowKit Go.Nm Go.Sh Go.Plc

theorem one_cellD {w : World} {g : Nat} {a : Value} {t : TypeId} (h : w.heap[g]? = some (.cells #[a] t)) : w.cell? ⟨g, 0, none⟩ = some a := by simp [World.cell?, h]
set_option maxRecDepth 100000 in
set_option maxHeartbeats 4000000 in
theorem cmp1_any (r : Rl) (As : Option Addr) (cs g : Nat) (n : Int) (w : World) (hg : w.heap[g]? = some (.cells #[.func (.func 113) #[] #[]] 158)) :
    Calls Tryz.prog 171 #[rlV r (.slice As r.rg.length cs), .int .i64 n, .pointer (some ⟨g, 0, none⟩)] w fun e w' => e = .returned (.int .i64 (cmpI r.nm n)) ∧ Below w.heap.size w w' := by
  have hb := below_new (w := w) (.cells #[.int .i64 r.nm, .slice As r.rg.length cs, .int .i64 r.fr, .int .i64 r.to, .int .i64 r.mo] 92)
  have hn := World.alloc_heap_new w (.cells #[.int .i64 r.nm, .slice As r.rg.length cs, .int .i64 r.fr, .int .i64 r.to, .int .i64 r.mo] 92)
  obtain ⟨V, hV⟩ : ∃ V, w.alloc (.cells #[.int .i64 r.nm, .slice As r.rg.length cs, .int .i64 r.fr, .int .i64 r.to, .int .i64 r.mo] 92) = V := ⟨_, rfl⟩
  rw [hV] at hb hn
  obtain ⟨c0, c1, c2, c3, c4⟩ := cells_five hn
  have k0 := one_cellD ((hb.block _ (Array.getElem?_eq_some_iff.1 hg).1).trans hg)
  have HB := Lib.hid hb
  have HRn := Lib.hid (ruleName_any r (.slice As r.rg.length cs) V)
  have HC := Lib.hid (fun Y => compare_any r.nm n Y)
  generalize cmpI r.nm n = q at *
  unfold rlV at HRn ⊢
  have HV := Lib.hid hV
  clear hb hn hg
  go_enter Tryz.func171, Tryz.ntmps171
  go_wp2_with fail
  refine HRn.out.mono ?_
  rintro e w2 ⟨rfl, hb2⟩
  have HB2 := Lib.hid (HB.out.trans (hb2.mono HB.out.size))
  clear hb2 c0 c1 c2 c3 c4 k0
  go_wp2_with fail
  refine (HC.out _).mono ?_
  rintro e w3 ⟨rfl, rfl⟩
  go_wp2_with fail
  go_ret
  exact ⟨rfl, HB2.out⟩
theorem cmp_lt0 {a b : Int} : (cmpI a b < 0) ↔ a < b := by
  unfold cmpI
  split
  · simp [*]
  · split <;> simp <;> omega
theorem cmp_eq0 {a b : Int} : (cmpI a b = 0) ↔ a = b := by
  unfold cmpI
  split
  · simp; omega
  · split <;> simp <;> omega
def IncL (L : List Int) : Prop := ∀ (i j : Nat) (x y : Int), i < j → L[i]? = some x → L[j]? = some y → x < y
theorem IncL.le {L : List Int} (h : IncL L) {i j : Nat} {x y : Int} (hij : i ≤ j) (hi : L[i]? = some x) (hj : L[j]? = some y) : x ≤ y := by
  rcases Nat.lt_or_eq_of_le hij with h1 | h1
  · exact Int.le_of_lt (h i j x y h1 hi hj)
  · subst h1; rw [hi] at hj; injection hj with hj; omega
/-- what indexOf answers -/
def IxR (L : List Int) (n : Int) (w : World) (e : Ending) (w' : World) : Prop :=
  (∃ (p : Nat) (f : Bool), e = .returned (.tuple #[.int .i64 (p : Int), .bool f]) ∧ ((f = true ∧ ixF L n = some p) ∨ (f = false ∧ ixF L n = none))) ∧ Below w.heap.size w w'
set_option maxRecDepth 100000 in
set_option maxHeartbeats 8000000 in
theorem bsf_any (v : Value) (L : List Rl) (n : Int) (g : Nat) (w : World) (hv : RlSl w w.heap.size v L) (hl : L.length ≤ 1000000) (hinc : IncL (rlN L)) (hg : w.heap[g]? = some (.cells #[.func (.func 113) #[] #[]] 158)) :
    Calls Tryz.prog 170 #[v, .int .i64 n, .func (.func 171) #[] #[.pointer (some ⟨g, 0, none⟩)]] w (IxR (rlN L) n w) := by
  have HV := Lib.hid hv
  obtain ⟨A, c, rfl⟩ := hv.form
  obtain ⟨m, hm⟩ : ∃ m, L.length = m := ⟨_, rfl⟩
  have HM := Lib.hid (show (rlN L).length = m from by unfold rlN; rw [List.length_map]; exact hm)
  have HI := Lib.hid hinc
  have HCm := Lib.hid (fun (r : Rl) (As : Option Addr) (cs : Nat) (Y : World) (h : Below w.heap.size w Y) => cmp1_any r As cs g n Y ((h.block _ (Array.getElem?_eq_some_iff.1 hg).1).trans hg))
  have HNm := Lib.hid (show ∀ (i : Nat) (r : Rl), L[i]? = some r → (rlN L)[i]? = some r.nm from fun i r hr => by unfold rlN; rw [List.getElem?_map, hr]; rfl)
  obtain ⟨N, hN⟩ : ∃ N, rlN L = N := ⟨_, rfl⟩
  rw [hN] at HM HI HNm ⊢
  rw [hm] at HV hl ⊢
  clear hv hm hinc hg hN
  go_enter Tryz.func170, Tryz.ntmps170
  go_wp2_with fail
  go_loopw [9, 10] (fun a b wr => ∃ i j : Nat, a = .int .i64 (i : Int) ∧ b = .int .i64 (j : Int) ∧ i ≤ j ∧ j ≤ m ∧ (∀ k y, k < i → N[k]? = some y → y < n) ∧ (∀ k y, j ≤ k → N[k]? = some y → n ≤ y) ∧ Below w.heap.size w wr) (fun a b _ => (intOf b - intOf a).toNat)
  case atStart => exact ⟨0, m, rfl, rfl, by omega, by omega, fun k y h => absurd h (by omega), fun k y h e => by have := (List.getElem?_eq_some_iff.1 e).1; have := HM.out; omega, Below.refl _ _⟩
  case round =>
    obtain ⟨i, j, rfl, rfl, hij, hjm, hlo, hhi, hb⟩ := hrel
    have HQ := Lib.hid (And.intro hlo hhi)
    have HB := Lib.hid hb
    clear hlo hhi
    by_cases hlt : i < j
    · obtain ⟨h, hh⟩ : ∃ h, (i + j) / 2 = h := ⟨_, rfl⟩
      have hh1 : i ≤ h := by omega
      have hh2 : h < j := by omega
      have hw : IntKind.i64.wrap ((i : Int) + (j : Int)) = ((i + j : Nat) : Int) := by rw [IntWalk.i64_in _ (by omega)]; omega
      obtain ⟨r, ad, As, cs, hr, rfl, hY⟩ := HV.out.at_ (show h < m by omega)
      obtain ⟨⟨l0, l1, l2, l3, l4⟩, _⟩ := hY wr hb
      have HNr := Lib.hid (HNm.out h r hr)
      have HC1 := Lib.hid (HCm.out r As cs wr hb)
      obtain ⟨q, hq⟩ : ∃ q, cmpI r.nm n = q := ⟨_, rfl⟩
      rw [hq] at HC1
      unfold rlV at HC1
      by_cases hlq : r.nm < n
      · have hq0 : q < 0 := by rw [← hq]; exact cmp_lt0.2 hlq
        have HN2 := Lib.hid (show ∀ k z, k < h + 1 → N[k]? = some z → z < n from fun k z hk hz => by
          have := HI.out.le (show k ≤ h by omega) hz HNr.out; omega)
        clear hr hY hb hq
        go_wp2_with fail
        refine HC1.out.mono ?_
        rintro e w1 ⟨rfl, hb1⟩
        have HB1 := Lib.hid (HB.out.trans (hb1.mono HB.out.size))
        clear hb1
        go_wp2_with fail
        go_roundw
        case rel => exact ⟨h + 1, j, by go_num, rfl, by omega, hjm, HN2.out, HQ.out.2, HB1.out⟩
        case measure => simp [intOf]; omega
      · have hq0 : ¬ q < 0 := by rw [← hq]; exact fun h => hlq (cmp_lt0.1 h)
        have HN2 := Lib.hid (show ∀ k z, h ≤ k → N[k]? = some z → n ≤ z from fun k z hk hz => by
          have := HI.out.le hk HNr.out hz; omega)
        clear hr hY hb hq
        go_wp2_with fail
        refine HC1.out.mono ?_
        rintro e w1 ⟨rfl, hb1⟩
        have HB1 := Lib.hid (HB.out.trans (hb1.mono HB.out.size))
        clear hb1
        go_wp2_with fail
        go_roundw
        case rel => exact ⟨i, h, rfl, by go_num, by omega, by omega, HQ.out.1, HN2.out, HB1.out⟩
        case measure => simp [intOf]; omega
    · obtain rfl : i = j := by omega
      by_cases him : i < m
      · obtain ⟨r, ad, As, cs, hr, rfl, hY⟩ := HV.out.at_ him
        obtain ⟨⟨l0, l1, l2, l3, l4⟩, _⟩ := hY wr hb
        have HNr := Lib.hid (HNm.out i r hr)
        have HC1 := Lib.hid (HCm.out r As cs wr hb)
        obtain ⟨q, hq⟩ : ∃ q, cmpI r.nm n = q := ⟨_, rfl⟩
        rw [hq] at HC1
        unfold rlV at HC1
        by_cases hlq : r.nm = n
        · have hq0 : q = 0 := by rw [← hq]; exact cmp_eq0.2 hlq
          have HF := Lib.hid (show ixF N n = some i from ix_some (by rw [← hlq]; exact HNr.out) fun k y hk hy => by have := HQ.out.1 k y hk hy; omega)
          subst hq0
          clear hr hY hb hq hlq
          go_wp2_with fail
          refine HC1.out.mono ?_
          rintro e w1 ⟨rfl, hb1⟩
          have HB1 := Lib.hid (HB.out.trans (hb1.mono HB.out.size))
          clear hb1
          go_wp2_with fail
          go_ret2
          exact ⟨⟨i, true, rfl, .inl ⟨rfl, HF.out⟩⟩, HB1.out⟩
        · have hq0 : (q == 0) = false := by
            rw [beq_eq_false_iff_ne, ← hq]; exact fun h => hlq (cmp_eq0.1 h)
          have HF := Lib.hid (show ixF N n = none from ix_none fun y hy e => by
            obtain ⟨k, hk, e2⟩ := List.getElem_of_mem hy
            have hky : N[k]? = some y := by rw [← e2]; exact List.getElem?_eq_getElem hk
            rcases Nat.lt_or_ge k i with h | h
            · have := HQ.out.1 k y h hky; omega
            · rcases Nat.lt_or_eq_of_le h with h1 | h1
              · have h2 := HI.out i k _ _ h1 HNr.out hky
                have h3 := HQ.out.2 i _ (Nat.le_refl _) HNr.out
                omega
              · subst h1
                rw [HNr.out] at hky
                injection hky with hky
                exact hlq (hky.trans e))
          clear hr hY hb hq
          go_wp2_with fail
          refine HC1.out.mono ?_
          rintro e w1 ⟨rfl, hb1⟩
          have HB1 := Lib.hid (HB.out.trans (hb1.mono HB.out.size))
          clear hb1
          go_wp2_with fail
          go_ret2
          exact ⟨⟨i, false, rfl, .inr ⟨rfl, HF.out⟩⟩, HB1.out⟩
      · have HF := Lib.hid (show ixF N n = none from ix_none fun y hy e => by
          obtain ⟨k, hk, e2⟩ := List.getElem_of_mem hy
          have hky : N[k]? = some y := by rw [← e2]; exact List.getElem?_eq_getElem hk
          have := HQ.out.1 k y (by have := HM.out; omega) hky
          omega)
        have hnm : ¬ (i : Int) < (m : Int) := by omega
        clear hb
        go_wp2_with fail
        go_ret2
        exact ⟨⟨i, false, rfl, .inr ⟨rfl, HF.out⟩⟩, HB.out⟩
set_option maxRecDepth 100000 in
set_option maxHeartbeats 4000000 in
theorem indexOf_any (v : Value) (L : List Rl) (n : Int) (w : World) (hv : RlSl w w.heap.size v L) (hl : L.length ≤ 1000000) (hinc : IncL (rlN L)) :
    Calls Tryz.prog 112 #[v, .func (.func 113) #[] #[], .int .i64 n] w (IxR (rlN L) n w) := by
  have hb := below_new (w := w) (.cells #[.func (.func 113) #[] #[]] 158)
  have hn := World.alloc_heap_new w (.cells #[.func (.func 113) #[] #[]] 158)
  have HB := Lib.hid hb
  have HC := Lib.hid (bsf_any v L n w.heap.size _ (hv.step hb) hl hinc hn)
  obtain ⟨A, c, rfl⟩ := hv.form
  generalize L.length = m at *
  clear hv hb hn hinc
  go_enter Tryz.func112, Tryz.ntmps112
  go_wp2_with fail
  refine HC.out.mono ?_
  rintro e w2 ⟨⟨p, f, rfl, h⟩, hb2⟩
  have HE := Lib.hid (And.intro h (HB.out.trans (hb2.mono HB.out.size)))
  clear h hb2
  go_wp2_with fail
  go_ret2
  exact ⟨⟨p, f, rfl, HE.out.1⟩, HE.out.2⟩
end Go.Proofs.YtijidcigfdblaaaGreatDoor
