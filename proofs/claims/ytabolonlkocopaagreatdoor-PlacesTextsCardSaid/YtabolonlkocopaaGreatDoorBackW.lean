
/- PlacesBack: the walk. -/
import Derived.Test.YtabolonlkocopaaGreatDoorBckN
namespace Go.Proofs.YtabolonlkocopaaGreatDoor
open Go.RowKit Go.Plc

theorem arr_of (s : ByteArray) : (⟨s.data.toList.toArray⟩ : ByteArray) = s := by cases s; simp

/-- what both readings of a text may come to, and that the text of what is read is the text -/
theorem night_det (n : Int) (w : World) : ∃ (tx : List UInt8) (E : Int), (∀ w, MonthDays w → TabW w → Calls Tryz.prog 31 #[.int .i64 n] w fun e w' => e = .returned (.tuple #[.string ⟨tx.toArray⟩, .int .i64 E]) ∧ Below w.heap.size w w') ∧
    ((E = 0 ∧ tx.length ≤ 1000 ∧ NightOfText tx n) ∨ (E = 1 ∧ tx = [] ∧ ¬ (0 ≤ n ∧ n ≤ 99999))) := by
  by_cases hn : 0 ≤ n ∧ n ≤ 99999
  · obtain ⟨y, m, d, hv, hnm⟩ := date_has w hn.1 (by omega)
    obtain ⟨y', m', d', hv', hnm'⟩ := date_has (n := n + 1) w (by omega) (by omega)
    have hl : (nightT y m d y' m' d').length ≤ 1000 := by
      have l1 := dateT_len y m d hv
      have l2 := dateT_len y' m' d' hv'
      obtain ⟨v1, v2, v3, v4, v5, v6⟩ := (vdate_iff y' m' d').1 hv'
      have hdm := dom_bd y' m'
      have l3 := two_len m' (by omega) (by omega)
      have l4 := two_len d' (by omega) (by omega)
      unfold nightT
      split
      · simp only [List.length_append, List.length_cons, List.length_nil]; omega
      · split <;> simp only [List.length_append, List.length_cons, List.length_nil] <;> omega
    refine ⟨nightT y m d y' m' d', 0, fun w hM hT => (PrintNight_any n w hM hT).mono ?_, .inl ⟨rfl, hl, y, m, d, y', m', d', hv, hnm, hn.2, hv', hnm', rfl⟩⟩
    rintro e w' ⟨(⟨_, _, y1, m1, d1, y2, m2, d2, rfl, h1, h2, h3, h4⟩ | ⟨hno, rfl⟩), hb⟩
    · obtain ⟨rfl, rfl, rfl⟩ := date_one h1 hv (h2.trans hnm.symm)
      obtain ⟨rfl, rfl, rfl⟩ := date_one h3 hv' (h4.trans hnm'.symm)
      exact ⟨rfl, hb⟩
    · exact absurd hn hno
  · refine ⟨[], 1, fun w hM hT => (PrintNight_any n w hM hT).mono ?_, .inr ⟨rfl, rfl, hn⟩⟩
    rintro e w' ⟨(⟨h0, h1, _⟩ | ⟨hno, rfl⟩), hb⟩
    · exact absurd ⟨h0, h1⟩ hn
    · exact ⟨rfl, hb⟩
theorem text_one {cs : List UInt8} {n n' : Int} (h : NightOfText cs n) (h' : NightOfText cs n') : n = n' := by
  obtain ⟨p, q, e, _, h2, _⟩ := night_of_text h
  obtain ⟨p', q', e', _, h2', _⟩ := night_of_text h'
  rw [e] at e'
  injection e' with e1 e2
  subst e1
  exact h2.symm.trans h2'
theorem text_same {cs cs' : List UInt8} {n : Int} (h : NightOfText cs n) (h' : NightOfText cs' n) : cs = cs' := by
  obtain ⟨y, m, d, y', m', d', h1, h2, h3, h4, h5, rfl⟩ := h
  obtain ⟨z, k, c, z', k', c', g1, g2, g3, g4, g5, rfl⟩ := h'
  obtain ⟨rfl, rfl, rfl⟩ := date_one h1 g1 (h2.trans g2.symm)
  obtain ⟨rfl, rfl, rfl⟩ := date_one h4 g4 (h5.trans g5.symm)
  rfl
theorem text_rng {cs : List UInt8} {n : Int} (h : NightOfText cs n) : 0 ≤ n ∧ n ≤ 99999 := by
  obtain ⟨y, m, d, y', m', d', h1, h2, h3, h4, h5, rfl⟩ := h
  obtain ⟨v1, v2, v3, v4, v5, v6⟩ := (vdate_iff y m d).1 h1
  have := num_bd v3 v4 v5 v6
  have := dby_bd v1 (show y ≤ 274 by omega)
  omega
/-- reading a text, with one result -/
theorem parse_det (cs : List UInt8) (hc : cs.length ≤ 1000000) : ∃ n E : Int, (∀ w, MonthDays w → TabW w → Calls Tryz.prog 33 #[.string ⟨cs.toArray⟩] w fun e w' => e = .returned (.tuple #[.int .i64 n, .int .i64 E]) ∧ Below w.heap.size w w') ∧
    ((E = 0 ∧ NightOfText cs n) ∨ (E = 13 ∧ ∀ n', ¬ NightOfText cs n')) := by
  by_cases h : ∃ n, NightOfText cs n
  · obtain ⟨n, hn⟩ := h
    refine ⟨n, 0, fun w hM hT => (ParseNight_any cs w hM hT hc).mono ?_, .inl ⟨rfl, hn⟩⟩
    rintro e w' ⟨(⟨n', rfl, h1⟩ | ⟨rfl, h1⟩), hb⟩
    · rw [text_one h1 hn]; exact ⟨rfl, hb⟩
    · exact absurd hn (h1 n)
  · refine ⟨0, 13, fun w hM hT => (ParseNight_any cs w hM hT hc).mono ?_, .inr ⟨rfl, fun n hn => h ⟨n, hn⟩⟩⟩
    rintro e w' ⟨(⟨n', rfl, h1⟩ | ⟨rfl, h1⟩), hb⟩
    · exact absurd ⟨n', h1⟩ h
    · exact ⟨rfl, hb⟩
end Go.Proofs.YtabolonlkocopaaGreatDoor
