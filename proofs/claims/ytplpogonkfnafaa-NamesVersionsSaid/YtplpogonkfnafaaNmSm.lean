/- small. -/
import Derived.Test.YtplpogonkfnafaaNmD
namespace Go.Proofs.Ytplpogonkfnafaa
open Go.RowKit Go.Nm

def SmR (b : Bk) (w : World) (e : Ending) (w' : World) : Prop := (∃ r, e = .returned (.bool r) ∧ (r = true → Sm b)) ∧ Below w.heap.size w w'
theorem SmR.no {b : Bk} {w w' : World} (h : Below w.heap.size w w') : SmR b w (.returned (.bool false)) w' := ⟨⟨_, rfl, fun h => by cases h⟩, h⟩
theorem SmR.yes {b : Bk} {w w' : World} (hs : Sm b) (h : Below w.heap.size w w') : SmR b w (.returned (.bool true)) w' := ⟨⟨_, rfl, fun _ => hs⟩, h⟩
theorem sizes (n m : Nat) : (n ≤ 30 ∨ (401 ≤ n ∧ n ≤ 1000)) ∧ (m ≤ 10 ∨ (65 ≤ m ∧ m ≤ 200)) ∨ ¬ ((n ≤ 30 ∨ (401 ≤ n ∧ n ≤ 1000)) ∧ (m ≤ 10 ∨ (65 ≤ m ∧ m ≤ 200))) := Classical.em _
set_option maxRecDepth 100000 in
set_option maxHeartbeats 16000000 in
theorem small_any (v vc : Value) (b : Bk) (w : World) (hv : BkV w v b vc) :
    Calls Try.prog 15 #[v] w (SmR b w) := by
  obtain ⟨v1, rfl, h1, h2⟩ := hv
  obtain ⟨A1, c1, rfl, hc1, hm1⟩ := h1.form
  obtain ⟨A2, c2, rfl⟩ := h2.form
  have hb0 := below_new (w := w) (.cells #[.slice A1 b.first.length c1, .slice A2 b.chs.length c2] 25)
  have HN0 := Lib.hid (World.alloc_heap_new w (.cells #[.slice A1 b.first.length c1, .slice A2 b.chs.length c2] 25))
  have HB0 := Lib.hid hb0
  have HCh := Lib.hid h2
  obtain ⟨k0, k1⟩ := cells_two HN0.out
  clear h1 h2 hb0
  generalize hnf : b.first.length = n at *
  generalize hnc : b.chs.length = m at *
  have HF := Lib.hid (And.intro hnf hnc)
  clear hnf hnc hc1 hm1
  generalize hW1 : w.alloc (.cells #[.slice A1 n c1, .slice A2 m c2] 25) = W1 at *
  rcases (show (¬ (30:Int) < (n:Int) ∧ ¬ (1000:Int) < (n:Int)) ∨ ((30:Int) < (n:Int) ∧ (n:Int) ≤ 400) ∨ ((30:Int) < (n:Int) ∧ ¬ (n:Int) ≤ 400 ∧ ¬ (1000:Int) < (n:Int)) ∨ ((30:Int) < (n:Int) ∧ ¬ (n:Int) ≤ 400 ∧ (1000:Int) < (n:Int)) by omega) with ⟨a1, a2⟩ | ⟨a1, a2⟩ | ⟨a1, a2, a3⟩ | ⟨a1, a2, a3⟩
  · rcases (show (¬ (10:Int) < (m:Int) ∧ ¬ (200:Int) < (m:Int)) ∨ ((10:Int) < (m:Int) ∧ (m:Int) ≤ 64) ∨ ((10:Int) < (m:Int) ∧ ¬ (m:Int) ≤ 64 ∧ ¬ (200:Int) < (m:Int)) ∨ ((10:Int) < (m:Int) ∧ ¬ (m:Int) ≤ 64 ∧ (200:Int) < (m:Int)) by omega) with ⟨b1, b2⟩ | ⟨b1, b2⟩ | ⟨b1, b2, b3⟩ | ⟨b1, b2, b3⟩
    · have hns : n ≤ 1000 ∧ m ≤ 1000 := by omega
      have HNs := Lib.hid hns
      clear hns
      go_enter Try.func15, Try.ntmps15
      go_wp2_with fail
      go_loopw [3] (fun iv wr => ∃ i : Nat, iv = .int .i64 (i : Int) ∧ i ≤ m ∧ wr = W1 ∧ ∀ j x, j < i → b.chs[j]? = some x → x.fr.length ≤ 20 ∧ x.to.length ≤ 20) (fun iv _ => m - (intOf iv).toNat)
      case atStart => exact ⟨0, rfl, by omega, rfl, fun j x hj => absurd hj (by omega)⟩
      case round =>
        obtain ⟨i, rfl, him, rfl, hq⟩ := hrel
        have HQ := Lib.hid hq
        clear hq
        by_cases hlt : i < m
        · obtain ⟨x, ad, vf, vt, hx, rfl, hbd, d0, d1, d2, hf, ht⟩ := (HCh.out.below HB0.out).at_ hlt
          obtain ⟨Af, cf, rfl, _⟩ := hf.form
          obtain ⟨At, ct, rfl, _⟩ := ht.form
          have HX := Lib.hid hx
          clear hf ht hx hbd d0
          generalize hlf : x.fr.length = lf at *
          generalize hlt2 : x.to.length = lt at *
          have HL := Lib.hid (And.intro hlf hlt2)
          clear hlf hlt2
          rcases (show (20:Int) < (lf:Int) ∨ (¬ (20:Int) < (lf:Int) ∧ (20:Int) < (lt:Int)) ∨ (¬ (20:Int) < (lf:Int) ∧ ¬ (20:Int) < (lt:Int)) by omega) with ha | ⟨ha, hb⟩ | ⟨ha, hb⟩
          · go_wp2_with fail
            go_ret
            exact SmR.no HB0.out
          · go_wp2_with fail
            go_ret
            exact SmR.no HB0.out
          · have HN := Lib.hid (show ∀ j y, j < i + 1 → b.chs[j]? = some y → y.fr.length ≤ 20 ∧ y.to.length ≤ 20 from fun j y hj hy => by
              by_cases h1 : j < i
              · exact HQ.out j y h1 hy
              · obtain rfl : j = i := by omega
                rw [HX.out] at hy; injection hy with hy; subst hy
                have := HL.out; omega)
            go_wp2_with fail
            go_roundw
            case rel => exact ⟨i + 1, by go_num, by omega, (by first | trivial | rfl), HN.out⟩
            case measure => simp [intOf]; omega
        · obtain rfl : i = m := by omega
          go_wp2_with fail
          go_ret
          exact SmR.yes ⟨by have := HF.out; have := HNs.out; omega, by have := HF.out; have := HNs.out; omega, fun x hx => by
            obtain ⟨j, hj, e⟩ := List.getElem_of_mem hx
            have := HQ.out j x (by have := HF.out; omega) (by rw [← e]; exact List.getElem?_eq_getElem hj)
            omega⟩ HB0.out
    · go_enter Try.func15, Try.ntmps15
      go_wp2_with fail
      go_ret
      exact SmR.no HB0.out
    · have hns : n ≤ 1000 ∧ m ≤ 1000 := by omega
      have HNs := Lib.hid hns
      clear hns
      go_enter Try.func15, Try.ntmps15
      go_wp2_with fail
      go_loopw [3] (fun iv wr => ∃ i : Nat, iv = .int .i64 (i : Int) ∧ i ≤ m ∧ wr = W1 ∧ ∀ j x, j < i → b.chs[j]? = some x → x.fr.length ≤ 20 ∧ x.to.length ≤ 20) (fun iv _ => m - (intOf iv).toNat)
      case atStart => exact ⟨0, rfl, by omega, rfl, fun j x hj => absurd hj (by omega)⟩
      case round =>
        obtain ⟨i, rfl, him, rfl, hq⟩ := hrel
        have HQ := Lib.hid hq
        clear hq
        by_cases hlt : i < m
        · obtain ⟨x, ad, vf, vt, hx, rfl, hbd, d0, d1, d2, hf, ht⟩ := (HCh.out.below HB0.out).at_ hlt
          obtain ⟨Af, cf, rfl, _⟩ := hf.form
          obtain ⟨At, ct, rfl, _⟩ := ht.form
          have HX := Lib.hid hx
          clear hf ht hx hbd d0
          generalize hlf : x.fr.length = lf at *
          generalize hlt2 : x.to.length = lt at *
          have HL := Lib.hid (And.intro hlf hlt2)
          clear hlf hlt2
          rcases (show (20:Int) < (lf:Int) ∨ (¬ (20:Int) < (lf:Int) ∧ (20:Int) < (lt:Int)) ∨ (¬ (20:Int) < (lf:Int) ∧ ¬ (20:Int) < (lt:Int)) by omega) with ha | ⟨ha, hb⟩ | ⟨ha, hb⟩
          · go_wp2_with fail
            go_ret
            exact SmR.no HB0.out
          · go_wp2_with fail
            go_ret
            exact SmR.no HB0.out
          · have HN := Lib.hid (show ∀ j y, j < i + 1 → b.chs[j]? = some y → y.fr.length ≤ 20 ∧ y.to.length ≤ 20 from fun j y hj hy => by
              by_cases h1 : j < i
              · exact HQ.out j y h1 hy
              · obtain rfl : j = i := by omega
                rw [HX.out] at hy; injection hy with hy; subst hy
                have := HL.out; omega)
            go_wp2_with fail
            go_roundw
            case rel => exact ⟨i + 1, by go_num, by omega, (by first | trivial | rfl), HN.out⟩
            case measure => simp [intOf]; omega
        · obtain rfl : i = m := by omega
          go_wp2_with fail
          go_ret
          exact SmR.yes ⟨by have := HF.out; have := HNs.out; omega, by have := HF.out; have := HNs.out; omega, fun x hx => by
            obtain ⟨j, hj, e⟩ := List.getElem_of_mem hx
            have := HQ.out j x (by have := HF.out; omega) (by rw [← e]; exact List.getElem?_eq_getElem hj)
            omega⟩ HB0.out
    · go_enter Try.func15, Try.ntmps15
      go_wp2_with fail
      go_ret
      exact SmR.no HB0.out
  · go_enter Try.func15, Try.ntmps15
    go_wp2_with fail
    go_ret
    exact SmR.no HB0.out
  · rcases (show (¬ (10:Int) < (m:Int) ∧ ¬ (200:Int) < (m:Int)) ∨ ((10:Int) < (m:Int) ∧ (m:Int) ≤ 64) ∨ ((10:Int) < (m:Int) ∧ ¬ (m:Int) ≤ 64 ∧ ¬ (200:Int) < (m:Int)) ∨ ((10:Int) < (m:Int) ∧ ¬ (m:Int) ≤ 64 ∧ (200:Int) < (m:Int)) by omega) with ⟨b1, b2⟩ | ⟨b1, b2⟩ | ⟨b1, b2, b3⟩ | ⟨b1, b2, b3⟩
    · have hns : n ≤ 1000 ∧ m ≤ 1000 := by omega
      have HNs := Lib.hid hns
      clear hns
      go_enter Try.func15, Try.ntmps15
      go_wp2_with fail
      go_loopw [3] (fun iv wr => ∃ i : Nat, iv = .int .i64 (i : Int) ∧ i ≤ m ∧ wr = W1 ∧ ∀ j x, j < i → b.chs[j]? = some x → x.fr.length ≤ 20 ∧ x.to.length ≤ 20) (fun iv _ => m - (intOf iv).toNat)
      case atStart => exact ⟨0, rfl, by omega, rfl, fun j x hj => absurd hj (by omega)⟩
      case round =>
        obtain ⟨i, rfl, him, rfl, hq⟩ := hrel
        have HQ := Lib.hid hq
        clear hq
        by_cases hlt : i < m
        · obtain ⟨x, ad, vf, vt, hx, rfl, hbd, d0, d1, d2, hf, ht⟩ := (HCh.out.below HB0.out).at_ hlt
          obtain ⟨Af, cf, rfl, _⟩ := hf.form
          obtain ⟨At, ct, rfl, _⟩ := ht.form
          have HX := Lib.hid hx
          clear hf ht hx hbd d0
          generalize hlf : x.fr.length = lf at *
          generalize hlt2 : x.to.length = lt at *
          have HL := Lib.hid (And.intro hlf hlt2)
          clear hlf hlt2
          rcases (show (20:Int) < (lf:Int) ∨ (¬ (20:Int) < (lf:Int) ∧ (20:Int) < (lt:Int)) ∨ (¬ (20:Int) < (lf:Int) ∧ ¬ (20:Int) < (lt:Int)) by omega) with ha | ⟨ha, hb⟩ | ⟨ha, hb⟩
          · go_wp2_with fail
            go_ret
            exact SmR.no HB0.out
          · go_wp2_with fail
            go_ret
            exact SmR.no HB0.out
          · have HN := Lib.hid (show ∀ j y, j < i + 1 → b.chs[j]? = some y → y.fr.length ≤ 20 ∧ y.to.length ≤ 20 from fun j y hj hy => by
              by_cases h1 : j < i
              · exact HQ.out j y h1 hy
              · obtain rfl : j = i := by omega
                rw [HX.out] at hy; injection hy with hy; subst hy
                have := HL.out; omega)
            go_wp2_with fail
            go_roundw
            case rel => exact ⟨i + 1, by go_num, by omega, (by first | trivial | rfl), HN.out⟩
            case measure => simp [intOf]; omega
        · obtain rfl : i = m := by omega
          go_wp2_with fail
          go_ret
          exact SmR.yes ⟨by have := HF.out; have := HNs.out; omega, by have := HF.out; have := HNs.out; omega, fun x hx => by
            obtain ⟨j, hj, e⟩ := List.getElem_of_mem hx
            have := HQ.out j x (by have := HF.out; omega) (by rw [← e]; exact List.getElem?_eq_getElem hj)
            omega⟩ HB0.out
    · go_enter Try.func15, Try.ntmps15
      go_wp2_with fail
      go_ret
      exact SmR.no HB0.out
    · have hns : n ≤ 1000 ∧ m ≤ 1000 := by omega
      have HNs := Lib.hid hns
      clear hns
      go_enter Try.func15, Try.ntmps15
      go_wp2_with fail
      go_loopw [3] (fun iv wr => ∃ i : Nat, iv = .int .i64 (i : Int) ∧ i ≤ m ∧ wr = W1 ∧ ∀ j x, j < i → b.chs[j]? = some x → x.fr.length ≤ 20 ∧ x.to.length ≤ 20) (fun iv _ => m - (intOf iv).toNat)
      case atStart => exact ⟨0, rfl, by omega, rfl, fun j x hj => absurd hj (by omega)⟩
      case round =>
        obtain ⟨i, rfl, him, rfl, hq⟩ := hrel
        have HQ := Lib.hid hq
        clear hq
        by_cases hlt : i < m
        · obtain ⟨x, ad, vf, vt, hx, rfl, hbd, d0, d1, d2, hf, ht⟩ := (HCh.out.below HB0.out).at_ hlt
          obtain ⟨Af, cf, rfl, _⟩ := hf.form
          obtain ⟨At, ct, rfl, _⟩ := ht.form
          have HX := Lib.hid hx
          clear hf ht hx hbd d0
          generalize hlf : x.fr.length = lf at *
          generalize hlt2 : x.to.length = lt at *
          have HL := Lib.hid (And.intro hlf hlt2)
          clear hlf hlt2
          rcases (show (20:Int) < (lf:Int) ∨ (¬ (20:Int) < (lf:Int) ∧ (20:Int) < (lt:Int)) ∨ (¬ (20:Int) < (lf:Int) ∧ ¬ (20:Int) < (lt:Int)) by omega) with ha | ⟨ha, hb⟩ | ⟨ha, hb⟩
          · go_wp2_with fail
            go_ret
            exact SmR.no HB0.out
          · go_wp2_with fail
            go_ret
            exact SmR.no HB0.out
          · have HN := Lib.hid (show ∀ j y, j < i + 1 → b.chs[j]? = some y → y.fr.length ≤ 20 ∧ y.to.length ≤ 20 from fun j y hj hy => by
              by_cases h1 : j < i
              · exact HQ.out j y h1 hy
              · obtain rfl : j = i := by omega
                rw [HX.out] at hy; injection hy with hy; subst hy
                have := HL.out; omega)
            go_wp2_with fail
            go_roundw
            case rel => exact ⟨i + 1, by go_num, by omega, (by first | trivial | rfl), HN.out⟩
            case measure => simp [intOf]; omega
        · obtain rfl : i = m := by omega
          go_wp2_with fail
          go_ret
          exact SmR.yes ⟨by have := HF.out; have := HNs.out; omega, by have := HF.out; have := HNs.out; omega, fun x hx => by
            obtain ⟨j, hj, e⟩ := List.getElem_of_mem hx
            have := HQ.out j x (by have := HF.out; omega) (by rw [← e]; exact List.getElem?_eq_getElem hj)
            omega⟩ HB0.out
    · go_enter Try.func15, Try.ntmps15
      go_wp2_with fail
      go_ret
      exact SmR.no HB0.out
  · go_enter Try.func15, Try.ntmps15
    go_wp2_with fail
    go_ret
    exact SmR.no HB0.out
end Go.Proofs.Ytplpogonkfnafaa
