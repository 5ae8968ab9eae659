/- PlacesSeasons: a step round the year. -/
import Derived.Test.YtabolonlkocopaaDoorSeaW
import Derived.Test.YtabolonlkocopaaDoorAwk
import Derived.Test.YtabolonlkocopaaDoorAro
import Derived.Deep.RegionWith
namespace Go.Proofs.YtabolonlkocopaaDoor
open Go.RowKit Go.Plc

set_option maxRecDepth 100000 in
set_option maxHeartbeats 2000000 in
theorem step_any (c b : Int) (w : World) (hM : MonthDays w) (hc : vday c = true) (hb : b = 1 ∨ b = -1) :
    Calls Tryd.prog 47 #[.int .i64 c, .int .i64 b] w fun e w' => ∃ c', e = .returned (.int .i64 c') ∧ vday c' = true ∧ idx c' = (idx c + b + 366) % 366 ∧ c' ≤ 2000 ∧ 0 ≤ c' ∧ Below w.heap.size w w' := by
  have HM := Lib.hid hM
  have hbd := idx_bd hc
  obtain ⟨m, d, hcn, e1, e2, h1, h2, h3, h4, h5⟩ := vday_form hc
  have HN := Lib.hid (NightOf_any 0 m d w hM)
  have hvd : vdate 0 m d = true := by unfold vday at hc; rwa [e1, e2] at hc
  have hid : num 0 m d = idx c := by unfold idx; rw [e1, e2]
  rw [(night_small hvd (by omega)).1, (night_small hvd (by omega)).2, hid] at HN
  have c0 : 0 ≤ c := by omega
  have ed : c / 100 = m := by rw [← e1, Int.tdiv_eq_ediv_of_nonneg c0]
  have em : c % 100 = d := by rw [← e2, Int.tmod_eq_emod_of_nonneg c0]
  have hr : 0 ≤ (idx c + b) % 366 ∧ (idx c + b) % 366 ≤ 365 := by omega
  have hmod : (idx c + b + 366) % 366 = (idx c + b) % 366 := by omega
  rw [hmod]
  have HD := Lib.hid (fun w hM => DateOf_any ((idx c + b) % 366) w hM)
  have c3 : c ≤ 2000 := by omega
  have i0 : -1 ≤ b ∧ b ≤ 1 := by omega
  clear hM hc hvd hid hcn hb hmod
  have hw1 : IntKind.i64.wrap (idx c + b) = idx c + b := by rw [IntKind.wrap_i64]; omega
  have hw2 : IntKind.i64.wrap (idx c + b + 366) = idx c + b + 366 := by rw [IntKind.wrap_i64]; omega
  have hw3 : wrap64 (idx c + b + 366) = idx c + b + 366 := by unfold wrap64; omega
  have i1 : 0 ≤ idx c + b + 366 := by omega
  generalize idx c = i at *
  go_enter Tryd.func47, Tryd.ntmps47
  go_wp2_with fail
  refine HN.out.mono ?_
  rintro e w1 ⟨rfl, hb1⟩
  have H1 := Lib.hid (show Below w.heap.size w w1 from hb1)
  clear hb1
  go_wp2_with fail
  generalize hk : (i + b) % 366 = k at *
  have HK := Lib.hid hk
  clear hk
  refine (HD.out w1 (HM.out.below H1.out)).mono ?_
  rintro e w2 ⟨(⟨_, _, y2, m2, d2, rfl, hv2, hn2⟩ | ⟨hno, rfl⟩), hb2⟩
  · have H2 := Lib.hid (show Below w.heap.size w w2 from H1.out.trans (hb2.mono H1.out.size))
    obtain ⟨a1, a2, a3, a4, a5, a6⟩ := (vdate_iff _ _ _).1 hv2
    have hnb := num_bd a3 a4 a5 a6
    have e0 : y2 = 0 := by
      rcases Int.lt_or_le y2 1 with h | h
      · omega
      · have := dby_mono h
        have e : dby 1 = 366 := by decide
        omega
    subst e0
    have hdm := dom_bd 0 m2
    obtain ⟨k1, k2, k3⟩ := vday_mk a3 a4 a5 a6
    have HR := Lib.hid (show vday (100 * m2 + d2) = true ∧ idx (100 * m2 + d2) = k from ⟨k1, by unfold idx; rw [k2, k3]; exact hn2⟩)
    have hw4 : IntKind.i64.wrap (100 * m2) = 100 * m2 := by rw [IntKind.wrap_i64]; omega
    have hw5 : IntKind.i64.wrap (100 * m2 + d2) = 100 * m2 + d2 := by rw [IntKind.wrap_i64]; omega
    clear hv2 hn2 hb2 hnb k1 k2 k3
    go_wp2_with fail
    go_ret
    exact ⟨_, rfl, HR.out.1, by rw [HR.out.2, HK.out], by omega, by omega, H2.out.trans ((below_new _).mono H2.out.size)⟩
  · exact absurd (by omega) hno

theorem vday_rng {n : Int} (h : vday n = true) : 0 ≤ n ∧ n ≤ 2000 := by
  obtain ⟨m, d, hn, e1, e2, h1, h2, h3, h4, h5⟩ := vday_form h
  omega
theorem arr68 {t : Array Value} (h : t.size = 68) : ∃ f : Nat → Value, t = #[f 0, f 1, f 2, f 3, f 4, f 5, f 6, f 7, f 8, f 9, f 10, f 11, f 12, f 13, f 14, f 15, f 16, f 17, f 18, f 19, f 20, f 21, f 22, f 23, f 24, f 25, f 26, f 27, f 28, f 29, f 30, f 31, f 32, f 33, f 34, f 35, f 36, f 37, f 38, f 39, f 40, f 41, f 42, f 43, f 44, f 45, f 46, f 47, f 48, f 49, f 50, f 51, f 52, f 53, f 54, f 55, f 56, f 57, f 58, f 59, f 60, f 61, f 62, f 63, f 64, f 65, f 66, f 67] := by
  refine ⟨fun k => t.getD k undef, ?_⟩
  apply Array.ext
  · simpa using h
  · intro i h1 h2
    have : i < 68 := by omega
    have hi : i = 0 ∨ i = 1 ∨ i = 2 ∨ i = 3 ∨ i = 4 ∨ i = 5 ∨ i = 6 ∨ i = 7 ∨ i = 8 ∨ i = 9 ∨ i = 10 ∨ i = 11 ∨ i = 12 ∨ i = 13 ∨ i = 14 ∨ i = 15 ∨ i = 16 ∨ i = 17 ∨ i = 18 ∨ i = 19 ∨ i = 20 ∨ i = 21 ∨ i = 22 ∨ i = 23 ∨ i = 24 ∨ i = 25 ∨ i = 26 ∨ i = 27 ∨ i = 28 ∨ i = 29 ∨ i = 30 ∨ i = 31 ∨ i = 32 ∨ i = 33 ∨ i = 34 ∨ i = 35 ∨ i = 36 ∨ i = 37 ∨ i = 38 ∨ i = 39 ∨ i = 40 ∨ i = 41 ∨ i = 42 ∨ i = 43 ∨ i = 44 ∨ i = 45 ∨ i = 46 ∨ i = 47 ∨ i = 48 ∨ i = 49 ∨ i = 50 ∨ i = 51 ∨ i = 52 ∨ i = 53 ∨ i = 54 ∨ i = 55 ∨ i = 56 ∨ i = 57 ∨ i = 58 ∨ i = 59 ∨ i = 60 ∨ i = 61 ∨ i = 62 ∨ i = 63 ∨ i = 64 ∨ i = 65 ∨ i = 66 ∨ i = 67 := by omega
    rcases hi with rfl | rfl | rfl | rfl | rfl | rfl | rfl | rfl | rfl | rfl | rfl | rfl | rfl | rfl | rfl | rfl | rfl | rfl | rfl | rfl | rfl | rfl | rfl | rfl | rfl | rfl | rfl | rfl | rfl | rfl | rfl | rfl | rfl | rfl | rfl | rfl | rfl | rfl | rfl | rfl | rfl | rfl | rfl | rfl | rfl | rfl | rfl | rfl | rfl | rfl | rfl | rfl | rfl | rfl | rfl | rfl | rfl | rfl | rfl | rfl | rfl | rfl | rfl | rfl | rfl | rfl | rfl | rfl <;> simp [Array.getD, h]
theorem idx_surj : ∀ k : Fin 366, ∃ m : Fin 13, ∃ d : Fin 32, vdate 0 (m : Nat) (d : Nat) = true ∧ num 0 (m : Nat) (d : Nat) = ((k : Nat) : Int) := by decide +kernel
theorem idx_has {k : Int} (h0 : 0 ≤ k) (h1 : k ≤ 365) : ∃ c, vday c = true ∧ idx c = k := by
  obtain ⟨m, d, hv, hn⟩ := idx_surj ⟨k.toNat, by omega⟩
  obtain ⟨a1, a2, a3, a4, a5, a6⟩ := (vdate_iff _ _ _).1 hv
  obtain ⟨b1, b2, b3⟩ := vday_mk a3 a4 a5 a6
  refine ⟨_, b1, ?_⟩
  unfold idx
  rw [b2, b3, hn]
  simp; omega
/-- the boxes of the walk -/
structure GS (w : World) (f t : Int) (X : World) : Prop where
  bel : Below w.heap.size w X
  box : X.heap[w.heap.size]? = some (.cells #[.int .i64 f, .int .i64 t] 40)
theorem GS.below {w X Y : World} {f t : Int} (h : GS w f t X) (hb : Below X.heap.size X Y) : GS w f t Y := ⟨h.bel.trans (hb.mono h.bel.size), (hb.block _ (Array.getElem?_eq_some_iff.1 h.box).1).trans h.box⟩
theorem GS.alloc {w X : World} {f t : Int} (h : GS w f t X) (o : Obj) : GS w f t (X.alloc o) := h.below (below_new o)
theorem GS.drew {w X : World} {f t : Int} (h : GS w f t X) : GS w f t X.drew := h.below (Below.drew (Below.refl _ _))
theorem GS.lt {w X : World} {f t : Int} (h : GS w f t X) : w.heap.size < X.heap.size := (Array.getElem?_eq_some_iff.1 h.box).1
theorem GS.set {w X : World} {f t : Int} (h : GS w f t X) {g i : Nat} {v : Value} (hg : w.heap.size < g) : GS w f t (X.setCell ⟨g, i, none⟩ v) := ⟨Below.setCell (p := ⟨g, i, none⟩) h.bel (by show w.heap.size ≤ g; omega) _, set_other h.box (by omega)⟩
theorem step_one (c b : Int) (hc : vday c = true) (hb : b = 1 ∨ b = -1) : ∃ c', vday c' = true ∧ idx c' = (idx c + b + 366) % 366 ∧ ∀ w, MonthDays w → Calls Tryd.prog 47 #[.int .i64 c, .int .i64 b] w fun e w' => e = .returned (.int .i64 c') ∧ Below w.heap.size w w' := by
  obtain ⟨c', h1, h2⟩ := idx_has (k := (idx c + b + 366) % 366) (by omega) (by omega)
  refine ⟨c', h1, h2, fun w hM => (step_any c b w hM hc hb).mono fun e w' h => ?_⟩
  obtain ⟨c'', rfl, k1, k2, _, _, hbl⟩ := h
  have := idx_inj k1 h1 (k2.trans h2.symm)
  subst this
  exact ⟨rfl, hbl⟩
end Go.Proofs.YtabolonlkocopaaDoor
