/- The reference reads nights of texts. -/
import Derived.Test.YtabolonlkocopaaGreatDoorTxR
import Derived.Test.YtabolonlkocopaaGreatDoorBackW
namespace Go.Proofs.YtabolonlkocopaaGreatDoor
open Go.RowKit Go.Plc

theorem num_ge {y m d : Int} (hv : vdate y m d = true) : 0 ≤ num y m d := by
  obtain ⟨v1, v2, v3, v4, v5, v6⟩ := (vdate_iff y m d).1 hv
  have := num_bd v3 v4 v5 v6
  have := dby_bd v1 (show y ≤ 274 by omega)
  omega
theorem nt_parts {cs : List UInt8} {n : Int} (h : NightOfText cs n) : ∃ y m d t, partsS cs = some ((2000 + y) :: m :: d :: t) ∧ vdate y m d = true ∧ num y m d = n ∧ n ≤ 99999 := by
  obtain ⟨y, m, d, y', m', d', h1, h2, h3, h4, h5, rfl⟩ := h
  obtain ⟨t, ht⟩ := parts_night h1 h4
  exact ⟨y, m, d, t, ht, h1, h2, h3⟩
theorem ParseRes.bad {cs : List UInt8} {w w' : World} (h : ∀ n, ¬ NightOfText cs n) (hb : Below w.heap.size w w') : ParseRes cs w (.returned (.tuple #[.int .i64 0, .int .i64 13])) w' := ⟨.inr ⟨rfl, h⟩, hb⟩
theorem nt_three {cs : List UInt8} {a b c : Int} {t : List Int} (hp : partsS cs = some (a :: b :: c :: t)) {n : Int} (h : NightOfText cs n) : 2000 ≤ a ∧ vdate (a - 2000) b c = true ∧ num (a - 2000) b c = n ∧ n ≤ 99999 := by
  obtain ⟨y, m, d, t', h1, h2, h3, h4⟩ := nt_parts h
  rw [hp] at h1
  injection h1 with h1
  injection h1 with e1 h1
  injection h1 with e2 h1
  injection h1 with e3 h1
  subst e1; subst e2; subst e3
  obtain ⟨v1, _⟩ := (vdate_iff y b c).1 h2
  rw [show 2000 + y - 2000 = y by omega]
  exact ⟨by omega, h2, h3, h4⟩

set_option maxRecDepth 100000 in
set_option maxHeartbeats 4000000 in
theorem rParseNight_any (cs : List UInt8) (w : World) (hc : cs.length ≤ 1000000) :
    Calls Tryz.prog 34 #[.string ⟨cs.toArray⟩] w (ParseRes cs w) := by
  have HNu := Lib.hid (rparts_any cs w hc)
  go_enter Tryz.func34, Tryz.ntmps34
  go_wp2_with fail
  refine HNu.out.mono ?_
  rintro e w1 ⟨(⟨L, v, hp, rfl, hown⟩ | ⟨hp, rfl⟩), hb1⟩
  · by_cases h3 : L.length < 3
    · have HNo := Lib.hid (show ∀ n, ¬ NightOfText cs n from fun n h => by
        obtain ⟨y, m, d, t, h1, _⟩ := nt_parts h
        rw [hp] at h1; injection h1 with h1; subst h1
        simp at h3; omega)
      have HB := Lib.hid hb1
      obtain ⟨A, c, rfl⟩ := own_form hown
      clear hown hp hb1 HNu
      generalize L.length = k at *
      have hk : (k : Int) < 3 := by omega
      go_wp2_with fail
      go_ret2
      exact ParseRes.bad HNo.out HB.out
    · obtain ⟨a, b, c, t, rfl⟩ : ∃ a b c t, L = a :: b :: c :: t := by
        match L, h3 with
        | [], h3 => exact absurd (by simp) h3
        | [_], h3 => exact absurd (by simp) h3
        | [_, _], h3 => exact absurd (by simp) h3
        | a :: b :: c :: t, _ => exact ⟨a, b, c, t, rfl⟩
      have hra := partsS_rng hp a List.mem_cons_self
      have HT := Lib.hid (fun n (h : NightOfText cs n) => nt_three hp h)
      obtain ⟨g, cap, rfl, hg0, hg1, hcell⟩ := own_cells hown (by simp)
      have q0 := hcell 0 a rfl
      have q1 := hcell 1 b rfl
      have q2 := hcell 2 c rfl
      have HB := Lib.hid hb1
      have hk3 : 3 ≤ (a :: b :: c :: t).length := by simp
      clear hown hp hb1 HNu h3 hcell
      generalize (a :: b :: c :: t).length = k at *
      have hk : ¬ (k : Int) < 3 := by omega
      have hk0 : 0 < k := by omega
      have hk1 : 1 < k := by omega
      have hk2 : 2 < k := by omega
      have hk1i : (1 : Int) < (k : Int) := by omega
      have hk2i : (2 : Int) < (k : Int) := by omega
      by_cases h2000 : a < 2000
      · have HNo := Lib.hid (show ∀ n, ¬ NightOfText cs n from fun n h => by have := (HT.out n h).1; omega)
        go_wp2_with fail
        go_ret2
        exact ParseRes.bad HNo.out HB.out
      · have hwr : IntKind.i64.wrap (a - 2000) = a - 2000 := by rw [IntKind.wrap_i64]; omega
        have HNO := Lib.hid (fun w => rNightOf_any (a - 2000) b c w)
        have ss := fun p => (⟨Wb.cell q0 p, Wb.cell q1 p, Wb.cell q2 p⟩ : _ ∧ _ ∧ _)
        cases hv : vdate (a - 2000) b c
        · have HNo := Lib.hid (show ∀ n, ¬ NightOfText cs n from fun n h => by have := (HT.out n h).2.1; rw [hv] at this; cases this)
          rw [show nightV (a - 2000) b c = 0 by unfold nightV; rw [hv]; rfl, show nightE (a - 2000) b c = 12 by unfold nightE; rw [hv]; rfl] at HNO
          clear hv
          go_wp2_with fail
          refine wp_region_wb (by kernel_rfl) (by kernel_rfl) ?_; (repeat ((with_reducible refine wpQuiet_step ?_); intro K hK; go_simp; (try (refine ite_neg_of (by simp [undef]) ?_)); first | (with_reducible refine hK _ ?_; clear hK K) | (apply Exists.intro; (with_reducible refine ⟨fun _ => ?_, hK _ ?_⟩); ((go_at_call 81; exact Calls.wb (HNO.out _))); clear hK K))); (with_reducible refine wpQuiet_nil ?_); rintro w1 ⟨⟨_, hb1⟩, rfl⟩; (try dsimp only)
          go_wp2_with fail
          go_ret2
          exact ParseRes.bad HNo.out (HB.out.trans (hb1.mono HB.out.size))
        · by_cases hbig : 99999 < num (a - 2000) b c
          · have HNo := Lib.hid (show ∀ n, ¬ NightOfText cs n from fun n h => by have := (HT.out n h).2.2; omega)
            rw [(night_big hv hbig).1, (night_big hv hbig).2] at HNO
            clear hv
            go_wp2_with fail
            refine wp_region_wb (by kernel_rfl) (by kernel_rfl) ?_; (repeat ((with_reducible refine wpQuiet_step ?_); intro K hK; go_simp; (try (refine ite_neg_of (by simp [undef]) ?_)); first | (with_reducible refine hK _ ?_; clear hK K) | (apply Exists.intro; (with_reducible refine ⟨fun _ => ?_, hK _ ?_⟩); ((go_at_call 81; exact Calls.wb (HNO.out _))); clear hK K))); (with_reducible refine wpQuiet_nil ?_); rintro w1 ⟨⟨_, hb1⟩, rfl⟩; (try dsimp only)
            go_wp2_with fail
            go_ret2
            exact ParseRes.bad HNo.out (HB.out.trans (hb1.mono HB.out.size))
          · rw [(night_small hv hbig).1, (night_small hv hbig).2] at HNO
            have HNn := Lib.hid (fun n h => (HT.out n h).2.2.1)
            have hn0 : 0 ≤ num (a - 2000) b c := num_ge hv
            clear hv
            generalize num (a - 2000) b c = n0 at *
            have HPn := Lib.hid (fun w => rPrintNight_any n0 w)
            go_wp2_with fail
            refine wp_region_wb (by kernel_rfl) (by kernel_rfl) ?_; (repeat ((with_reducible refine wpQuiet_step ?_); intro K hK; go_simp; (try (refine ite_neg_of (by simp [undef]) ?_)); first | (with_reducible refine hK _ ?_; clear hK K) | (apply Exists.intro; (with_reducible refine ⟨fun _ => ?_, hK _ ?_⟩); ((go_at_call 81; exact Calls.wb (HNO.out _))); clear hK K))); (with_reducible refine wpQuiet_nil ?_); rintro w1 ⟨⟨_, hb1⟩, rfl⟩; (try dsimp only)
            have HB2 := Lib.hid (HB.out.trans (hb1.mono HB.out.size))
            clear hb1 HB q0 q1 q2 ss
            go_wp2_with fail
            refine (HPn.out _).mono ?_
            rintro e w2 ⟨(⟨_, hn1, y, m, d, y', m', d', rfl, k1, k2, k3, k4⟩ | ⟨hno, _⟩), hb2⟩
            · have HNt := Lib.hid (show NightOfText (nightT y m d y' m' d') n0 from ⟨y, m, d, y', m', d', k1, k2, hn1, k3, k4, rfl⟩)
              have HB3 := Lib.hid (HB2.out.trans (hb2.mono HB2.out.size))
              clear k1 k2 k3 k4 hb2 HB2
              have hbe := bytes_eq (nightT y m d y' m' d') cs
              by_cases he : nightT y m d y' m' d' = cs
              · have HYes := Lib.hid (show NightOfText cs n0 from he ▸ HNt.out)
                rw [show decide (nightT y m d y' m' d' = cs) = true by simpa using he] at hbe
                clear he HNt
                generalize nightT y m d y' m' d' = tx at *
                generalize (⟨tx.toArray⟩ : ByteArray) = s1 at *
                go_wp2_with fail
                go_ret2
                exact ⟨.inl ⟨n0, rfl, HYes.out⟩, HB3.out⟩
              · have HNo := Lib.hid (show ∀ n, ¬ NightOfText cs n from fun n h => by
                  have e := HNn.out n h
                  subst e
                  exact he (text_same HNt.out h))
                rw [show decide (nightT y m d y' m' d' = cs) = false by simpa using he] at hbe
                clear he HNt
                generalize nightT y m d y' m' d' = tx at *
                generalize (⟨tx.toArray⟩ : ByteArray) = s1 at *
                go_wp2_with fail
                go_ret2
                exact ParseRes.bad HNo.out HB3.out
            · exact absurd ⟨hn0, by omega⟩ hno
  · have HNo := Lib.hid (show ∀ n, ¬ NightOfText cs n from fun n h => by
      obtain ⟨y, m, d, t, h1, _⟩ := nt_parts h
      rw [hp] at h1; cases h1)
    have HB := Lib.hid hb1
    clear hp hb1 HNu
    go_wp2_with fail
    go_ret2
    exact ParseRes.bad HNo.out HB.out
end Go.Proofs.YtabolonlkocopaaGreatDoor
