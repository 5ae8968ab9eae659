/- Sum, Rest, Agrees: the program. -/
import Derived.Test.YtijidcigfdblaaaGreatDoorShF
namespace Go.Sh
def sumA (p : Pg) : Int := if okP p = true then sLo p.ls else 0
def sumZ (p : Pg) : Int := if okP p = true then sHi p.ls else 0
def agA (p : Pg) : Int := if agE p = 0 then sLo p.ls else 0
def agZ (p : Pg) : Int := if agE p = 0 then sHi p.ls else 0
def rsA (p : Pg) : Int := if agE p = 0 then max 0 (p.lo - sHi p.ls) else 0
def rsZ (p : Pg) : Int := if agE p = 0 then p.hi - sLo p.ls else 0
def agrE (p : Pg) : Int := if agE p = 40 then 40 else 0
theorem ag_cases (p : Pg) : agE p = 0 ∨ agE p = 3 ∨ agE p = 40 := by
  unfold agE; split
  · split
    · exact .inl rfl
    · exact .inr (.inl rfl)
  · exact .inr (.inr rfl)
theorem ag_ok {p : Pg} (h : agE p = 0) : PgOk p ∧ sLo p.ls ≤ p.hi := by
  unfold agE at h
  by_cases h1 : okP p = true
  · rw [if_pos h1] at h
    by_cases h2 : sLo p.ls ≤ p.hi
    · exact ⟨ok_iff.1 h1, h2⟩
    · rw [if_neg h2] at h; omega
  · rw [if_neg h1] at h; omega
theorem sums_ok {p : Pg} (h : PgOk p) : 0 ≤ sLo p.ls ∧ sLo p.ls ≤ sHi p.ls ∧ sHi p.ls ≤ 20000000 ∧ 0 ≤ p.lo ∧ p.lo ≤ p.hi ∧ p.hi ≤ 100000 := by
  have h1 := sum_bd h.ln p.ls.length (Nat.le_refl _)
  rw [List.take_of_length_le (Nat.le_refl _)] at h1
  have h2 := cnt_rng h.cn
  have h3 := h.len
  omega
end Go.Sh
namespace Go.Proofs.YtijidcigfdblaaaGreatDoor
open Go.RowKit Go.Nm Go.Sh Go.Plc

set_option maxRecDepth 100000 in
set_option maxHeartbeats 8000000 in
theorem Sum_any (v : Value) (p : Pg) (w : World) (hv : PgV w v p) (hp : PgSm p) : Calls Tryz.prog 34 #[v] w fun e w' => e = .returned (.tuple #[.agg #[.int .i64 (sumA p), .int .i64 (sumZ p)], .int .i64 (valE p)]) ∧ Below w.heap.size w w' := by
  obtain ⟨A, c, W0, W1, rfl, hW0, hW1, hb1, hz0, hz1, hn1, hV, hL, hC⟩ := pg_box2 hv #[.int .i64 0, .int .i64 0] 25
  have HB1 := Lib.hid hb1
  have HN1 := Lib.hid hn1
  have HV := Lib.hid hV
  have HC := Lib.hid hC
  have HZ := Lib.hid (And.intro hz0 hz1)
  have HF := Lib.hid (isValid_any _ p W1 (hV W1 (Below.refl _ _)) hp)
  have HS := Lib.hid (fun (h : okP p = true) Y (hY : Below W1.heap.size W1 Y) => sumOf_any _ p Y (hV Y hY) hp (ok_iff.1 h))
  obtain ⟨g0, g1, g2, g3, g4, g5, g6, g7, g8, g9⟩ := hC W1 (Below.refl _ _)
  have HR := Lib.hid (show sumA p = (if okP p = true then sLo p.ls else 0) ∧ sumZ p = (if okP p = true then sHi p.ls else 0) ∧ valE p = (if okP p = true then 0 else 40) from ⟨rfl, rfl, rfl⟩)
  obtain ⟨b, hb⟩ : ∃ b, okP p = b := ⟨_, rfl⟩
  rw [hb] at HF HS HR
  unfold pgV at HF HS ⊢
  unfold pgC at hW0
  generalize p.ls.length = n at *
  clear hv hp hb1 hz1 hn1 hV hL hC HV hb
  go_enter Tryz.func34, Tryz.ntmps34
  go_wp2_with fail
  (with_reducible refine HF.out.mono ?_)
  rintro e w1 ⟨rfl, hb⟩
  have q1 := (hb.block _ (by have := HZ.out.2; omega)).trans HN1.out
  obtain ⟨t0, t1⟩ := cells_two q1
  have f0 := frozen_cells q1 0
  have f1 := frozen_cells q1 1
  have HB2 := Lib.hid (HB1.out.trans (hb.mono HB1.out.size))
  have HB21 := Lib.hid hb
  clear hW0 hW1 hz0 g0 g1 g2 g3 g4 g5 g6 g7 g8 g9
  obtain ⟨g0, g1, g2, g3, g4, g5, g6, g7, g8, g9⟩ := HC.out w1 (hb.mono (by have := HZ.out.2; omega))
  cases b with
  | false =>
    clear hb HF
    have r := put_two q1 (.int .i64 (0)) (.int .i64 (0))
    obtain ⟨r0, r1⟩ := cells_two r
    clear r
    go_wp2_with fail
    exact bodyPost_ret (v := .tuple #[.agg #[.int .i64 (0), .int .i64 (0)], .int .i64 40]) (by simp [results, Tryz.results34, go_sem, r0, r1]) rfl ⟨by rw [HR.out.1, HR.out.2.1, HR.out.2.2]; rfl, (HB2.out.setCell (by show _ ≤ _ + 1; omega) _).setCell (by show _ ≤ _ + 1; omega) _⟩
  | true =>
    have HS1 := Lib.hid (HS.out rfl w1 HB21.out)
    clear hb q1 t0 t1 f0 f1
    go_wp2_with fail
    (with_reducible refine HS1.out.mono ?_)
    rintro e w2 ⟨rfl, hb⟩
    have HB3 := Lib.hid (HB2.out.trans (hb.mono HB2.out.size))
    replace HB21 := Lib.hid (HB21.out.trans (hb.mono HB21.out.size))
    have q1 := (HB21.out.block _ (by have := HZ.out.2; omega)).trans HN1.out
    obtain ⟨t0, t1⟩ := cells_two q1
    have f0 := frozen_cells q1 0
    have f1 := frozen_cells q1 1
    clear hb g0 g1 g2 g3 g4 g5 g6 g7 g8 g9
    have r := put_two q1 (.int .i64 (sLo p.ls)) (.int .i64 (sHi p.ls))
    obtain ⟨r0, r1⟩ := cells_two r
    clear r
    go_wp2_with fail
    exact bodyPost_ret (v := .tuple #[.agg #[.int .i64 (sLo p.ls), .int .i64 (sHi p.ls)], .int .i64 0]) (by simp [results, Tryz.results34, go_sem, r0, r1]) rfl ⟨by rw [HR.out.1, HR.out.2.1, HR.out.2.2]; rfl, (HB3.out.setCell (by show _ ≤ _ + 1; omega) _).setCell (by show _ ≤ _ + 1; omega) _⟩
set_option maxRecDepth 100000 in
set_option maxHeartbeats 8000000 in
theorem agreedSum_any (v : Value) (p : Pg) (w : World) (hv : PgV w v p) (hp : PgSm p) : Calls Tryz.prog 96 #[v] w fun e w' => e = .returned (.tuple #[.agg #[.int .i64 (agA p), .int .i64 (agZ p)], .int .i64 (agE p)]) ∧ Below w.heap.size w w' := by
  obtain ⟨A, c, W0, W1, rfl, hW0, hW1, hb1, hz0, hz1, hn1, hV, hL, hC⟩ := pg_box2 hv #[.int .i64 0, .int .i64 0] 141
  have HB1 := Lib.hid hb1
  have HN1 := Lib.hid hn1
  have HV := Lib.hid hV
  have HC := Lib.hid hC
  have HZ := Lib.hid (And.intro hz0 hz1)
  have HF := Lib.hid (isValid_any _ p W1 (hV W1 (Below.refl _ _)) hp)
  have HS := Lib.hid (fun (h : okP p = true) Y (hY : Below W1.heap.size W1 Y) => sumOf_any _ p Y (hV Y hY) hp (ok_iff.1 h))
  obtain ⟨g0, g1, g2, g3, g4, g5, g6, g7, g8, g9⟩ := hC W1 (Below.refl _ _)
  have HR := Lib.hid (show agA p = (if agE p = 0 then sLo p.ls else 0) ∧ agZ p = (if agE p = 0 then sHi p.ls else 0) ∧ agE p = (if okP p = true then (if sLo p.ls ≤ p.hi then 0 else 3) else 40) from ⟨rfl, rfl, rfl⟩)
  obtain ⟨b, hb⟩ : ∃ b, okP p = b := ⟨_, rfl⟩
  rw [hb] at HF HS HR
  obtain ⟨ae, hae⟩ : ∃ x, agE p = x := ⟨_, rfl⟩
  rw [hae] at HR ⊢
  unfold pgV at HF HS ⊢
  unfold pgC at hW0
  generalize p.ls.length = n at *
  clear hv hp hb1 hz1 hn1 hV hL hC HV hb hae
  go_enter Tryz.func96, Tryz.ntmps96
  go_wp2_with fail
  (with_reducible refine HF.out.mono ?_)
  rintro e w1 ⟨rfl, hb⟩
  have q1 := (hb.block _ (by have := HZ.out.2; omega)).trans HN1.out
  obtain ⟨t0, t1⟩ := cells_two q1
  have f0 := frozen_cells q1 0
  have f1 := frozen_cells q1 1
  have HB2 := Lib.hid (HB1.out.trans (hb.mono HB1.out.size))
  have HB21 := Lib.hid hb
  clear hW0 hW1 hz0 g0 g1 g2 g3 g4 g5 g6 g7 g8 g9
  obtain ⟨g0, g1, g2, g3, g4, g5, g6, g7, g8, g9⟩ := HC.out w1 (hb.mono (by have := HZ.out.2; omega))
  cases b with
  | false =>
    have HE := Lib.hid (show ae = 40 from by rw [HR.out.2.2]; rfl)
    clear hb HF
    have r := put_two q1 (.int .i64 (0)) (.int .i64 (0))
    obtain ⟨r0, r1⟩ := cells_two r
    clear r
    go_wp2_with fail
    exact bodyPost_ret (v := .tuple #[.agg #[.int .i64 (0), .int .i64 (0)], .int .i64 40]) (by simp [results, Tryz.results96, go_sem, r0, r1]) rfl ⟨by rw [HR.out.1, HR.out.2.1, HE.out]; rfl, (HB2.out.setCell (by show _ ≤ _ + 1; omega) _).setCell (by show _ ≤ _ + 1; omega) _⟩
  | true =>
    have HS1 := Lib.hid (HS.out rfl w1 HB21.out)
    clear hb q1 t0 t1 f0 f1
    go_wp2_with fail
    (with_reducible refine HS1.out.mono ?_)
    rintro e w2 ⟨rfl, hb⟩
    have hbs := below_new (w := w2) (.cells #[.int .i64 (sLo p.ls), .int .i64 (sHi p.ls)] 141)
    have hns := World.alloc_heap_new w2 (.cells #[.int .i64 (sLo p.ls), .int .i64 (sHi p.ls)] 141)
    obtain ⟨V, hV⟩ : ∃ V, w2.alloc (.cells #[.int .i64 (sLo p.ls), .int .i64 (sHi p.ls)] 141) = V := ⟨_, rfl⟩
    rw [hV] at hbs hns
    obtain ⟨s0, s1⟩ := cells_two hns
    have HB3 := Lib.hid (HB2.out.trans ((hb.trans (hbs.mono hb.size)).mono HB2.out.size))
    replace HB21 := Lib.hid (HB21.out.trans ((hb.trans (hbs.mono hb.size)).mono HB21.out.size))
    have q1 := (HB21.out.block _ (by have := HZ.out.2; omega)).trans HN1.out
    obtain ⟨t0, t1⟩ := cells_two q1
    have f0 := frozen_cells q1 0
    have f1 := frozen_cells q1 1
    clear g0 g1 g2 g3 g4 g5 g6 g7 g8 g9
    obtain ⟨g0, g1, g2, g3, g4, g5, g6, g7, g8, g9⟩ := HC.out V (HB21.out.mono (by have := HZ.out.2; omega))
    clear hb hbs hns
    by_cases hle : sLo p.ls ≤ p.hi
    · have hnl : ¬ p.hi < sLo p.ls := by omega
      have HE := Lib.hid (show ae = 0 from by rw [HR.out.2.2]; simp [hle])
      have r := put_two q1 (.int .i64 (sLo p.ls)) (.int .i64 (sHi p.ls))
      obtain ⟨r0, r1⟩ := cells_two r
      clear r
      go_wp2_with fail
      exact bodyPost_ret (v := .tuple #[.agg #[.int .i64 (sLo p.ls), .int .i64 (sHi p.ls)], .int .i64 0]) (by simp [results, Tryz.results96, go_sem, r0, r1]) rfl ⟨by rw [HR.out.1, HR.out.2.1, HE.out]; rfl, (HB3.out.setCell (by show _ ≤ _ + 1; omega) _).setCell (by show _ ≤ _ + 1; omega) _⟩
    · have hnl : p.hi < sLo p.ls := by omega
      have HE := Lib.hid (show ae = 3 from by rw [HR.out.2.2]; simp [hle])
      have r := put_two q1 (.int .i64 (0)) (.int .i64 (0))
      obtain ⟨r0, r1⟩ := cells_two r
      clear r
      go_wp2_with fail
      exact bodyPost_ret (v := .tuple #[.agg #[.int .i64 (0), .int .i64 (0)], .int .i64 3]) (by simp [results, Tryz.results96, go_sem, r0, r1]) rfl ⟨by rw [HR.out.1, HR.out.2.1, HE.out]; rfl, (HB3.out.setCell (by show _ ≤ _ + 1; omega) _).setCell (by show _ ≤ _ + 1; omega) _⟩
set_option maxRecDepth 100000 in
set_option maxHeartbeats 8000000 in
theorem Rest_any (v : Value) (p : Pg) (w : World) (hv : PgV w v p) (hp : PgSm p) : Calls Tryz.prog 36 #[v] w fun e w' => e = .returned (.tuple #[.agg #[.int .i64 (rsA p), .int .i64 (rsZ p)], .int .i64 (agE p)]) ∧ Below w.heap.size w w' := by
  obtain ⟨A, c, W0, W1, rfl, hW0, hW1, hb1, hz0, hz1, hn1, hV, hL, hC⟩ := pg_box2 hv #[.int .i64 0, .int .i64 0] 25
  have HB1 := Lib.hid hb1
  have HN1 := Lib.hid hn1
  have HV := Lib.hid hV
  have HC := Lib.hid hC
  have HZ := Lib.hid (And.intro hz0 hz1)
  have HF := Lib.hid (agreedSum_any _ p W1 (hV W1 (Below.refl _ _)) hp)
  obtain ⟨g0, g1, g2, g3, g4, g5, g6, g7, g8, g9⟩ := hC W1 (Below.refl _ _)
  have HR := Lib.hid (show rsA p = (if agE p = 0 then max 0 (p.lo - sHi p.ls) else 0) ∧ rsZ p = (if agE p = 0 then p.hi - sLo p.ls else 0) ∧ agA p = (if agE p = 0 then sLo p.ls else 0) ∧ agZ p = (if agE p = 0 then sHi p.ls else 0) from ⟨rfl, rfl, rfl, rfl⟩)
  have HOk := Lib.hid (fun (h : agE p = 0) => sums_ok (ag_ok h).1)
  have HCs := Lib.hid (ag_cases p)
  obtain ⟨ae, hae⟩ : ∃ x, agE p = x := ⟨_, rfl⟩
  obtain ⟨aa, haa⟩ : ∃ x, agA p = x := ⟨_, rfl⟩
  obtain ⟨az, haz⟩ : ∃ x, agZ p = x := ⟨_, rfl⟩
  rw [hae] at HR HOk HCs HF ⊢
  rw [haa, haz] at HR HF
  unfold pgV at HF ⊢
  unfold pgC at hW0
  generalize p.ls.length = n at *
  clear hv hp hb1 hz1 hn1 hV hL hC HV hae haa haz
  go_enter Tryz.func36, Tryz.ntmps36
  go_wp2_with fail
  (with_reducible refine HF.out.mono ?_)
  rintro e w1 ⟨rfl, hb⟩
  have hbs := below_new (w := w1) (.cells #[.int .i64 aa, .int .i64 az] 141)
  have hns := World.alloc_heap_new w1 (.cells #[.int .i64 aa, .int .i64 az] 141)
  obtain ⟨V, hV⟩ : ∃ V, w1.alloc (.cells #[.int .i64 aa, .int .i64 az] 141) = V := ⟨_, rfl⟩
  rw [hV] at hbs hns
  obtain ⟨s0, s1⟩ := cells_two hns
  have HB21 := Lib.hid (hb.trans (hbs.mono hb.size))
  have HB3 := Lib.hid (HB1.out.trans (HB21.out.mono HB1.out.size))
  have q1 := (HB21.out.block _ (by have := HZ.out.2; omega)).trans HN1.out
  obtain ⟨t0, t1⟩ := cells_two q1
  have f0 := frozen_cells q1 0
  have f1 := frozen_cells q1 1
  clear hW0 hW1 hz0 g0 g1 g2 g3 g4 g5 g6 g7 g8 g9
  obtain ⟨g0, g1, g2, g3, g4, g5, g6, g7, g8, g9⟩ := HC.out V (HB21.out.mono (by have := HZ.out.2; omega))
  clear hb hbs hns HF
  rcases HCs.out with h0 | h0 | h0
  rotate_left
  · subst h0
    have r := put_two q1 (.int .i64 (0)) (.int .i64 (0))
    obtain ⟨r0, r1⟩ := cells_two r
    clear r
    go_wp2_with fail
    exact bodyPost_ret (v := .tuple #[.agg #[.int .i64 (0), .int .i64 (0)], .int .i64 3]) (by simp [results, Tryz.results36, go_sem, r0, r1]) rfl ⟨by rw [HR.out.1, HR.out.2.1]; rfl, (HB3.out.setCell (by show _ ≤ _ + 1; omega) _).setCell (by show _ ≤ _ + 1; omega) _⟩
  · subst h0
    have r := put_two q1 (.int .i64 (0)) (.int .i64 (0))
    obtain ⟨r0, r1⟩ := cells_two r
    clear r
    go_wp2_with fail
    exact bodyPost_ret (v := .tuple #[.agg #[.int .i64 (0), .int .i64 (0)], .int .i64 40]) (by simp [results, Tryz.results36, go_sem, r0, r1]) rfl ⟨by rw [HR.out.1, HR.out.2.1]; rfl, (HB3.out.setCell (by show _ ≤ _ + 1; omega) _).setCell (by show _ ≤ _ + 1; omega) _⟩
  · subst h0
    obtain ⟨b1, b2, b3, b4, b5, b6⟩ := HOk.out rfl
    obtain ⟨e1, e2, e3, e4⟩ := HR.out
    rw [if_pos rfl] at e1 e2 e3 e4
    have ha : aa = sLo p.ls := e3
    have hz : az = sHi p.ls := e4
    subst ha
    subst hz
    have hw1 : IntKind.i64.wrap (p.lo - sHi p.ls) = p.lo - sHi p.ls := by rw [IntKind.wrap_i64]; omega
    have hw2 : IntKind.i64.wrap (p.hi - sLo p.ls) = p.hi - sLo p.ls := by rw [IntKind.wrap_i64]; omega
    by_cases hm : sHi p.ls < p.lo
    · have HE := Lib.hid (show rsA p = p.lo - sHi p.ls ∧ rsZ p = p.hi - sLo p.ls from ⟨by rw [e1]; omega, e2⟩)
      have hm2 : 0 < p.lo - sHi p.ls := by omega
      clear b1 b2 b3 b4 b5 b6 e1 e2 e3 e4
      have r := put_two q1 (.int .i64 (p.lo - sHi p.ls)) (.int .i64 (p.hi - sLo p.ls))
      obtain ⟨r0, r1⟩ := cells_two r
      clear r
      go_wp2_with fail
      exact bodyPost_ret (v := .tuple #[.agg #[.int .i64 (p.lo - sHi p.ls), .int .i64 (p.hi - sLo p.ls)], .int .i64 0]) (by simp [results, Tryz.results36, go_sem, r0, r1]) rfl ⟨by rw [HE.out.1, HE.out.2], (HB3.out.setCell (by show _ ≤ _ + 1; omega) _).setCell (by show _ ≤ _ + 1; omega) _⟩
    · have HE := Lib.hid (show rsA p = 0 ∧ rsZ p = p.hi - sLo p.ls from ⟨by rw [e1]; omega, e2⟩)
      have hm2 : ¬ 0 < p.lo - sHi p.ls := by omega
      clear b1 b2 b3 b4 b5 b6 e1 e2 e3 e4
      have r := put_two q1 (.int .i64 (0)) (.int .i64 (p.hi - sLo p.ls))
      obtain ⟨r0, r1⟩ := cells_two r
      clear r
      go_wp2_with fail
      exact bodyPost_ret (v := .tuple #[.agg #[.int .i64 (0), .int .i64 (p.hi - sLo p.ls)], .int .i64 0]) (by simp [results, Tryz.results36, go_sem, r0, r1]) rfl ⟨by rw [HE.out.1, HE.out.2], (HB3.out.setCell (by show _ ≤ _ + 1; omega) _).setCell (by show _ ≤ _ + 1; omega) _⟩
set_option maxRecDepth 100000 in
set_option maxHeartbeats 8000000 in
theorem Agrees_any (v : Value) (p : Pg) (w : World) (hv : PgV w v p) (hp : PgSm p) : Calls Tryz.prog 38 #[v] w fun e w' => e = .returned (.tuple #[.bool (decide (agE p = 0)), .int .i64 (agrE p)]) ∧ Below w.heap.size w w' := by
  obtain ⟨A, c, W0, rfl, hW0, hb0, hz0, hV, hL, hC⟩ := pg_box hv
  have HB0 := Lib.hid hb0
  have HV := Lib.hid hV
  have HC := Lib.hid hC
  have HF := Lib.hid (agreedSum_any _ p W0 (hV W0 (Below.refl _ _)) hp)
  obtain ⟨g0, g1, g2, g3, g4, g5, g6, g7, g8, g9⟩ := hC W0 (Below.refl _ _)
  have HR := Lib.hid (show agrE p = (if agE p = 40 then 40 else 0) from rfl)
  have HCs := Lib.hid (ag_cases p)
  rw [HR.out]
  obtain ⟨ae, hae⟩ : ∃ x, agE p = x := ⟨_, rfl⟩
  obtain ⟨aa, haa⟩ : ∃ x, agA p = x := ⟨_, rfl⟩
  obtain ⟨az, haz⟩ : ∃ x, agZ p = x := ⟨_, rfl⟩
  rw [hae] at HCs HF ⊢
  rw [haa, haz] at HF
  unfold pgV at HF ⊢
  unfold pgC at hW0
  generalize p.ls.length = n at *
  clear hv hp hb0 hz0 hV hL hC HV hae haa haz HR
  go_enter Tryz.func38, Tryz.ntmps38
  go_wp2_with fail
  (with_reducible refine HF.out.mono ?_)
  rintro e w1 ⟨rfl, hb⟩
  have HB := Lib.hid (HB0.out.trans ((hb.trans ((below_new (w := w1) (.cells #[.int .i64 aa, .int .i64 az] 141)).mono hb.size)).mono HB0.out.size))
  clear hW0 hb HF g0 g1 g2 g3 g4 g5 g6 g7 g8 g9
  rcases HCs.out with h0 | h0 | h0 <;> subst h0
  · go_wp2_with fail
    go_ret2
    exact ⟨by simp, HB.out⟩
  · go_wp2_with fail
    go_ret2
    exact ⟨by simp, HB.out⟩
  · go_wp2_with fail
    go_ret2
    exact ⟨by simp, HB.out⟩
end Go.Proofs.YtijidcigfdblaaaGreatDoor
