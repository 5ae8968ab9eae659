
/- small, Count, Fates, Last, Has. -/
import Derived.Test.YtplpogonkfnafaaGreatNmBe
import Derived.Test.YtplpogonkfnafaaGreatNmBf
namespace Go.Proofs.YtplpogonkfnafaaGreat
open Go.RowKit Go.Nm

def SmR (b : Bk) (w : World) (e : Ending) (w' : World) : Prop := (∃ r, e = .returned (.bool r) ∧ (r = true → Sm b)) ∧ Below w.heap.size w w'
theorem SmR.no {b : Bk} {w w' : World} (h : Below w.heap.size w w') : SmR b w (.returned (.bool false)) w' := ⟨⟨_, rfl, fun h => by cases h⟩, h⟩
theorem SmR.yes {b : Bk} {w w' : World} (hs : Sm b) (h : Below w.heap.size w w') : SmR b w (.returned (.bool true)) w' := ⟨⟨_, rfl, fun _ => hs⟩, h⟩
theorem sizes (n m : Nat) : (n ≤ 30 ∨ (401 ≤ n ∧ n ≤ 1000)) ∧ (m ≤ 10 ∨ (65 ≤ m ∧ m ≤ 200)) ∨ ¬ ((n ≤ 30 ∨ (401 ≤ n ∧ n ≤ 1000)) ∧ (m ≤ 10 ∨ (65 ≤ m ∧ m ≤ 200))) := Classical.em _
set_option maxRecDepth 100000 in
set_option maxHeartbeats 16000000 in
theorem small_any (v vc : Value) (b : Bk) (w : World) (hv : BkV w v b vc) :
    Calls Tryz.prog 5 #[v] w (SmR b w) := by
  obtain ⟨v1, rfl, h1, h2⟩ := hv
  obtain ⟨A1, c1, rfl, hc1, hm1⟩ := h1.form
  obtain ⟨A2, c2, rfl⟩ := h2.form
  have hb0 := below_new (w := w) (.cells #[.slice A1 b.first.length c1, .slice A2 b.chs.length c2] 25)
  have HN0 := Lib.hid (World.alloc_heap_new w (.cells #[.slice A1 b.first.length c1, .slice A2 b.chs.length c2] 25))
  have HB0 := Lib.hid hb0
  have HCh := Lib.hid h2
  obtain ⟨k0, k1⟩ := cells_two HN0.out
  clear h1 h2 hb0
  generalize hnf : b.first.length = n at *
  generalize hnc : b.chs.length = m at *
  have HF := Lib.hid (And.intro hnf hnc)
  clear hnf hnc hc1 hm1
  generalize hW1 : w.alloc (.cells #[.slice A1 n c1, .slice A2 m c2] 25) = W1 at *
  rcases (show (¬ (30:Int) < (n:Int) ∧ ¬ (1000:Int) < (n:Int)) ∨ ((30:Int) < (n:Int) ∧ (n:Int) ≤ 400) ∨ ((30:Int) < (n:Int) ∧ ¬ (n:Int) ≤ 400 ∧ ¬ (1000:Int) < (n:Int)) ∨ ((30:Int) < (n:Int) ∧ ¬ (n:Int) ≤ 400 ∧ (1000:Int) < (n:Int)) by omega) with ⟨a1, a2⟩ | ⟨a1, a2⟩ | ⟨a1, a2, a3⟩ | ⟨a1, a2, a3⟩
  · rcases (show (¬ (10:Int) < (m:Int) ∧ ¬ (200:Int) < (m:Int)) ∨ ((10:Int) < (m:Int) ∧ (m:Int) ≤ 64) ∨ ((10:Int) < (m:Int) ∧ ¬ (m:Int) ≤ 64 ∧ ¬ (200:Int) < (m:Int)) ∨ ((10:Int) < (m:Int) ∧ ¬ (m:Int) ≤ 64 ∧ (200:Int) < (m:Int)) by omega) with ⟨b1, b2⟩ | ⟨b1, b2⟩ | ⟨b1, b2, b3⟩ | ⟨b1, b2, b3⟩
    · have hns : n ≤ 1000 ∧ m ≤ 1000 := by omega
      have HNs := Lib.hid hns
      clear hns
      go_enter Tryz.func5, Tryz.ntmps5
      go_wp2_with fail
      go_loopw [3] (fun iv wr => ∃ i : Nat, iv = .int .i64 (i : Int) ∧ i ≤ m ∧ wr = W1 ∧ ∀ j x, j < i → b.chs[j]? = some x → x.fr.length ≤ 20 ∧ x.to.length ≤ 20) (fun iv _ => m - (intOf iv).toNat)
      case atStart => exact ⟨0, rfl, by omega, rfl, fun j x hj => absurd hj (by omega)⟩
      case round =>
        obtain ⟨i, rfl, him, rfl, hq⟩ := hrel
        have HQ := Lib.hid hq
        clear hq
        by_cases hlt : i < m
        · obtain ⟨x, ad, vf, vt, hx, rfl, hbd, d0, d1, d2, hf, ht⟩ := (HCh.out.below HB0.out).at_ hlt
          obtain ⟨Af, cf, rfl, _⟩ := hf.form
          obtain ⟨At, ct, rfl, _⟩ := ht.form
          have HX := Lib.hid hx
          clear hf ht hx hbd d0
          generalize hlf : x.fr.length = lf at *
          generalize hlt2 : x.to.length = lt at *
          have HL := Lib.hid (And.intro hlf hlt2)
          clear hlf hlt2
          rcases (show (20:Int) < (lf:Int) ∨ (¬ (20:Int) < (lf:Int) ∧ (20:Int) < (lt:Int)) ∨ (¬ (20:Int) < (lf:Int) ∧ ¬ (20:Int) < (lt:Int)) by omega) with ha | ⟨ha, hb⟩ | ⟨ha, hb⟩
          · go_wp2_with fail
            go_ret
            exact SmR.no HB0.out
          · go_wp2_with fail
            go_ret
            exact SmR.no HB0.out
          · have HN := Lib.hid (show ∀ j y, j < i + 1 → b.chs[j]? = some y → y.fr.length ≤ 20 ∧ y.to.length ≤ 20 from fun j y hj hy => by
              by_cases h1 : j < i
              · exact HQ.out j y h1 hy
              · obtain rfl : j = i := by omega
                rw [HX.out] at hy; injection hy with hy; subst hy
                have := HL.out; omega)
            go_wp2_with fail
            go_roundw
            case rel => exact ⟨i + 1, by go_num, by omega, (by first | trivial | rfl), HN.out⟩
            case measure => simp [intOf]; omega
        · obtain rfl : i = m := by omega
          go_wp2_with fail
          go_ret
          exact SmR.yes ⟨by have := HF.out; have := HNs.out; omega, by have := HF.out; have := HNs.out; omega, fun x hx => by
            obtain ⟨j, hj, e⟩ := List.getElem_of_mem hx
            have := HQ.out j x (by have := HF.out; omega) (by rw [← e]; exact List.getElem?_eq_getElem hj)
            omega⟩ HB0.out
    · go_enter Tryz.func5, Tryz.ntmps5
      go_wp2_with fail
      go_ret
      exact SmR.no HB0.out
    · have hns : n ≤ 1000 ∧ m ≤ 1000 := by omega
      have HNs := Lib.hid hns
      clear hns
      go_enter Tryz.func5, Tryz.ntmps5
      go_wp2_with fail
      go_loopw [3] (fun iv wr => ∃ i : Nat, iv = .int .i64 (i : Int) ∧ i ≤ m ∧ wr = W1 ∧ ∀ j x, j < i → b.chs[j]? = some x → x.fr.length ≤ 20 ∧ x.to.length ≤ 20) (fun iv _ => m - (intOf iv).toNat)
      case atStart => exact ⟨0, rfl, by omega, rfl, fun j x hj => absurd hj (by omega)⟩
      case round =>
        obtain ⟨i, rfl, him, rfl, hq⟩ := hrel
        have HQ := Lib.hid hq
        clear hq
        by_cases hlt : i < m
        · obtain ⟨x, ad, vf, vt, hx, rfl, hbd, d0, d1, d2, hf, ht⟩ := (HCh.out.below HB0.out).at_ hlt
          obtain ⟨Af, cf, rfl, _⟩ := hf.form
          obtain ⟨At, ct, rfl, _⟩ := ht.form
          have HX := Lib.hid hx
          clear hf ht hx hbd d0
          generalize hlf : x.fr.length = lf at *
          generalize hlt2 : x.to.length = lt at *
          have HL := Lib.hid (And.intro hlf hlt2)
          clear hlf hlt2
          rcases (show (20:Int) < (lf:Int) ∨ (¬ (20:Int) < (lf:Int) ∧ (20:Int) < (lt:Int)) ∨ (¬ (20:Int) < (lf:Int) ∧ ¬ (20:Int) < (lt:Int)) by omega) with ha | ⟨ha, hb⟩ | ⟨ha, hb⟩
          · go_wp2_with fail
            go_ret
            exact SmR.no HB0.out
          · go_wp2_with fail
            go_ret
            exact SmR.no HB0.out
          · have HN := Lib.hid (show ∀ j y, j < i + 1 → b.chs[j]? = some y → y.fr.length ≤ 20 ∧ y.to.length ≤ 20 from fun j y hj hy => by
              by_cases h1 : j < i
              · exact HQ.out j y h1 hy
              · obtain rfl : j = i := by omega
                rw [HX.out] at hy; injection hy with hy; subst hy
                have := HL.out; omega)
            go_wp2_with fail
            go_roundw
            case rel => exact ⟨i + 1, by go_num, by omega, (by first | trivial | rfl), HN.out⟩
            case measure => simp [intOf]; omega
        · obtain rfl : i = m := by omega
          go_wp2_with fail
          go_ret
          exact SmR.yes ⟨by have := HF.out; have := HNs.out; omega, by have := HF.out; have := HNs.out; omega, fun x hx => by
            obtain ⟨j, hj, e⟩ := List.getElem_of_mem hx
            have := HQ.out j x (by have := HF.out; omega) (by rw [← e]; exact List.getElem?_eq_getElem hj)
            omega⟩ HB0.out
    · go_enter Tryz.func5, Tryz.ntmps5
      go_wp2_with fail
      go_ret
      exact SmR.no HB0.out
  · go_enter Tryz.func5, Tryz.ntmps5
    go_wp2_with fail
    go_ret
    exact SmR.no HB0.out
  · rcases (show (¬ (10:Int) < (m:Int) ∧ ¬ (200:Int) < (m:Int)) ∨ ((10:Int) < (m:Int) ∧ (m:Int) ≤ 64) ∨ ((10:Int) < (m:Int) ∧ ¬ (m:Int) ≤ 64 ∧ ¬ (200:Int) < (m:Int)) ∨ ((10:Int) < (m:Int) ∧ ¬ (m:Int) ≤ 64 ∧ (200:Int) < (m:Int)) by omega) with ⟨b1, b2⟩ | ⟨b1, b2⟩ | ⟨b1, b2, b3⟩ | ⟨b1, b2, b3⟩
    · have hns : n ≤ 1000 ∧ m ≤ 1000 := by omega
      have HNs := Lib.hid hns
      clear hns
      go_enter Tryz.func5, Tryz.ntmps5
      go_wp2_with fail
      go_loopw [3] (fun iv wr => ∃ i : Nat, iv = .int .i64 (i : Int) ∧ i ≤ m ∧ wr = W1 ∧ ∀ j x, j < i → b.chs[j]? = some x → x.fr.length ≤ 20 ∧ x.to.length ≤ 20) (fun iv _ => m - (intOf iv).toNat)
      case atStart => exact ⟨0, rfl, by omega, rfl, fun j x hj => absurd hj (by omega)⟩
      case round =>
        obtain ⟨i, rfl, him, rfl, hq⟩ := hrel
        have HQ := Lib.hid hq
        clear hq
        by_cases hlt : i < m
        · obtain ⟨x, ad, vf, vt, hx, rfl, hbd, d0, d1, d2, hf, ht⟩ := (HCh.out.below HB0.out).at_ hlt
          obtain ⟨Af, cf, rfl, _⟩ := hf.form
          obtain ⟨At, ct, rfl, _⟩ := ht.form
          have HX := Lib.hid hx
          clear hf ht hx hbd d0
          generalize hlf : x.fr.length = lf at *
          generalize hlt2 : x.to.length = lt at *
          have HL := Lib.hid (And.intro hlf hlt2)
          clear hlf hlt2
          rcases (show (20:Int) < (lf:Int) ∨ (¬ (20:Int) < (lf:Int) ∧ (20:Int) < (lt:Int)) ∨ (¬ (20:Int) < (lf:Int) ∧ ¬ (20:Int) < (lt:Int)) by omega) with ha | ⟨ha, hb⟩ | ⟨ha, hb⟩
          · go_wp2_with fail
            go_ret
            exact SmR.no HB0.out
          · go_wp2_with fail
            go_ret
            exact SmR.no HB0.out
          · have HN := Lib.hid (show ∀ j y, j < i + 1 → b.chs[j]? = some y → y.fr.length ≤ 20 ∧ y.to.length ≤ 20 from fun j y hj hy => by
              by_cases h1 : j < i
              · exact HQ.out j y h1 hy
              · obtain rfl : j = i := by omega
                rw [HX.out] at hy; injection hy with hy; subst hy
                have := HL.out; omega)
            go_wp2_with fail
            go_roundw
            case rel => exact ⟨i + 1, by go_num, by omega, (by first | trivial | rfl), HN.out⟩
            case measure => simp [intOf]; omega
        · obtain rfl : i = m := by omega
          go_wp2_with fail
          go_ret
          exact SmR.yes ⟨by have := HF.out; have := HNs.out; omega, by have := HF.out; have := HNs.out; omega, fun x hx => by
            obtain ⟨j, hj, e⟩ := List.getElem_of_mem hx
            have := HQ.out j x (by have := HF.out; omega) (by rw [← e]; exact List.getElem?_eq_getElem hj)
            omega⟩ HB0.out
    · go_enter Tryz.func5, Tryz.ntmps5
      go_wp2_with fail
      go_ret
      exact SmR.no HB0.out
    · have hns : n ≤ 1000 ∧ m ≤ 1000 := by omega
      have HNs := Lib.hid hns
      clear hns
      go_enter Tryz.func5, Tryz.ntmps5
      go_wp2_with fail
      go_loopw [3] (fun iv wr => ∃ i : Nat, iv = .int .i64 (i : Int) ∧ i ≤ m ∧ wr = W1 ∧ ∀ j x, j < i → b.chs[j]? = some x → x.fr.length ≤ 20 ∧ x.to.length ≤ 20) (fun iv _ => m - (intOf iv).toNat)
      case atStart => exact ⟨0, rfl, by omega, rfl, fun j x hj => absurd hj (by omega)⟩
      case round =>
        obtain ⟨i, rfl, him, rfl, hq⟩ := hrel
        have HQ := Lib.hid hq
        clear hq
        by_cases hlt : i < m
        · obtain ⟨x, ad, vf, vt, hx, rfl, hbd, d0, d1, d2, hf, ht⟩ := (HCh.out.below HB0.out).at_ hlt
          obtain ⟨Af, cf, rfl, _⟩ := hf.form
          obtain ⟨At, ct, rfl, _⟩ := ht.form
          have HX := Lib.hid hx
          clear hf ht hx hbd d0
          generalize hlf : x.fr.length = lf at *
          generalize hlt2 : x.to.length = lt at *
          have HL := Lib.hid (And.intro hlf hlt2)
          clear hlf hlt2
          rcases (show (20:Int) < (lf:Int) ∨ (¬ (20:Int) < (lf:Int) ∧ (20:Int) < (lt:Int)) ∨ (¬ (20:Int) < (lf:Int) ∧ ¬ (20:Int) < (lt:Int)) by omega) with ha | ⟨ha, hb⟩ | ⟨ha, hb⟩
          · go_wp2_with fail
            go_ret
            exact SmR.no HB0.out
          · go_wp2_with fail
            go_ret
            exact SmR.no HB0.out
          · have HN := Lib.hid (show ∀ j y, j < i + 1 → b.chs[j]? = some y → y.fr.length ≤ 20 ∧ y.to.length ≤ 20 from fun j y hj hy => by
              by_cases h1 : j < i
              · exact HQ.out j y h1 hy
              · obtain rfl : j = i := by omega
                rw [HX.out] at hy; injection hy with hy; subst hy
                have := HL.out; omega)
            go_wp2_with fail
            go_roundw
            case rel => exact ⟨i + 1, by go_num, by omega, (by first | trivial | rfl), HN.out⟩
            case measure => simp [intOf]; omega
        · obtain rfl : i = m := by omega
          go_wp2_with fail
          go_ret
          exact SmR.yes ⟨by have := HF.out; have := HNs.out; omega, by have := HF.out; have := HNs.out; omega, fun x hx => by
            obtain ⟨j, hj, e⟩ := List.getElem_of_mem hx
            have := HQ.out j x (by have := HF.out; omega) (by rw [← e]; exact List.getElem?_eq_getElem hj)
            omega⟩ HB0.out
    · go_enter Tryz.func5, Tryz.ntmps5
      go_wp2_with fail
      go_ret
      exact SmR.no HB0.out
  · go_enter Tryz.func5, Tryz.ntmps5
    go_wp2_with fail
    go_ret
    exact SmR.no HB0.out
end Go.Proofs.YtplpogonkfnafaaGreat
namespace Go.Proofs.YtplpogonkfnafaaGreat
open Go.RowKit Go.Nm

def countOut (b : Bk) : Int × Int := if openE b [] = 0 then (if rich b then (0, 2) else (cnt b, 0)) else (0, openE b [])
end Go.Proofs.YtplpogonkfnafaaGreat
namespace Go.Proofs.YtplpogonkfnafaaGreat
open Go.RowKit Go.Nm

/-- lists of numbers and an errno -/
def OutV (R : List (List Int)) (er : Int) (w : World) (e : Ending) (w' : World) : Prop := (∃ u, e = .returned (.tuple #[u, .int .i64 er]) ∧ VsSl w' w'.heap.size u R) ∧ Below w.heap.size w w'
theorem VsSl.none (w : World) (B : Nat) : VsSl w B (.slice none 0 0) [] := ⟨_, _, [], rfl, ⟨rfl, fun i v L h => by simp at h⟩, fun i u h => by simp at h⟩
theorem OutV.nil {er : Int} {w w' : World} (hb : Below w.heap.size w w') : OutV [] er w (.returned (.tuple #[.slice none 0 0, .int .i64 er])) w' := ⟨⟨_, rfl, VsSl.none _ _⟩, hb⟩
theorem OutV.mk {R : List (List Int)} {er : Int} {w w' : World} {u : Value} (hs : VsSl w' w'.heap.size u R) (hb : Below w.heap.size w w') : OutV R er w (.returned (.tuple #[u, .int .i64 er])) w' := ⟨⟨u, rfl, hs⟩, hb⟩
/-- all fates of a book -/
def allF (b : Bk) : List (List Int) := fatesF b (b.chs.length + 1) []
def fatesOut (b : Bk) : List (List Int) × Int := if openE b [] = 0 then (if rich b then ([], 2) else (allF b, 0)) else ([], openE b [])
set_option maxRecDepth 100000 in
set_option maxHeartbeats 8000000 in
theorem Fates_any (v vc : Value) (b : Bk) (w : World) (hv : BkV w v b vc) (hs : Sm b) (hM : Val b → rich b = false → (allF b).length ≤ 100000) :
    Calls Tryz.prog 16 #[v] w (OutV (fatesOut b).1 (fatesOut b).2 w) := by
  have hv0 := hv
  obtain ⟨v1, rfl, h1, h2⟩ := hv
  obtain ⟨A1, c1, rfl, _⟩ := h1.form
  obtain ⟨A2, c2, rfl⟩ := h2.form
  have hb0 := below_new (w := w) (.cells #[.slice A1 b.first.length c1, .slice A2 b.chs.length c2] 25)
  have HO := Lib.hid (open_any _ _ _ b [] _ (hv0.step hb0) hs (InSl.nil _ _) (by simp))
  have HB0 := Lib.hid hb0
  have HM := Lib.hid (show fatesOut b = if openE b [] = 0 then (if rich b then ([], 2) else (allF b, 0)) else ([], openE b []) from rfl)
  have HZ := Lib.hid (openE_val (b := b) (V := []))
  have HS := Lib.hid hs
  have HMx := Lib.hid hM
  clear hv0 h1 h2 hb0 hs hM
  generalize fatesOut b = o at *
  obtain ⟨oR, oE⟩ := o
  dsimp only
  generalize openE b [] = er at *
  go_enter Tryz.func16, Tryz.ntmps16
  go_wp2_with fail
  (with_reducible refine HO.out.mono ?_)
  rintro e w1 ⟨u, rfl, hu0, hu1, hb⟩
  have HB := Lib.hid (HB0.out.trans (hb.mono HB0.out.size))
  clear hb
  by_cases he : er = 0
  · subst he
    obtain ⟨hval, _⟩ := HZ.out rfl
    rw [if_pos rfl] at HM
    have hH := hu0 rfl
    obtain ⟨Av, cv, rfl, hvs⟩ := vers_sl hH
    have hb2 := below_new (w := w1) (.cells #[.slice Av (vers b).length cv, .slice A2 b.chs.length c2] 55)
    have HH := Lib.hid (hH.step hb2)
    have HB2 := Lib.hid (HB.out.trans (hb2.mono HB.out.size))
    have HRi := Lib.hid (rich_val _ _ b _ HH.out HS.out hval)
    have HMv := Lib.hid (HMx.out hval)
    have hlen := val_len hval
    have h64 : b.chs.length ≤ 64 := hval.1
    have HCo := Lib.hid (fun (hr : rich b = false) (V0 : World) (hb : Below (w1.alloc (.cells #[.slice Av (vers b).length cv, .slice A2 b.chs.length c2] 55)).heap.size (w1.alloc (.cells #[.slice Av (vers b).length cv, .slice A2 b.chs.length c2] 55)) V0) Hb (hx : V0.heap[Hb]? = some (.cells #[.slice Av (vers b).length cv, .slice A2 b.chs.length c2] 55)) =>
      collect_fates V0 V0 _ _ b (b.chs.length + 1) Hb (HH.out.step hb) HS.out hval hlen (by omega) (HMv.out hr) ⟨_, rfl, hx⟩ (Below.refl _ _))
    have HN2 := Lib.hid (World.alloc_heap_new w1 (.cells #[.slice Av (vers b).length cv, .slice A2 b.chs.length c2] 55))
    clear hH hvs hb2 hu0 hu1 hval HZ h64
    obtain ⟨W8, hW8⟩ : ∃ W8, w1.alloc (.cells #[.slice Av (vers b).length cv, .slice A2 b.chs.length c2] 55) = W8 := ⟨_, rfl⟩
    rw [hW8] at HH HB2 HRi HCo HN2
    clear hlen
    generalize hvq : (vers b).length = vl at *
    clear hvq
    obtain ⟨k0, k1⟩ := cells_two HN2.out
    obtain ⟨rr, hrr⟩ : ∃ rr, rich b = rr := ⟨_, rfl⟩
    rw [hrr] at HM HRi HCo
    clear hrr HMv HMx
    obtain ⟨z, hz⟩ : ∃ z, allF b = z := ⟨_, rfl⟩
    have hz2 : fatesF b (b.chs.length + 1) [] = z := hz
    rw [hz] at HM
    rw [hz2] at HCo
    clear hz hz2
    go_wp2_with fail
    (with_reducible refine HRi.out.mono ?_)
    rintro e w3 ⟨rfl, hb⟩
    have HB3 := Lib.hid (And.intro hb (HB2.out.trans (hb.mono HB2.out.size)))
    have j0 : w3.cell? ⟨w1.heap.size, 0, none⟩ = some (.slice Av vl cv) := (hb.cell (p := ⟨w1.heap.size, 0, none⟩) (Array.getElem?_eq_some_iff.1 HN2.out).1).trans k0
    have j1 : w3.cell? ⟨w1.heap.size, 1, none⟩ = some (.slice A2 b.chs.length c2) := (hb.cell (p := ⟨w1.heap.size, 1, none⟩) (Array.getElem?_eq_some_iff.1 HN2.out).1).trans k1
    clear hb k0 k1
    cases rr with
    | true =>
      have hM := HM.out
      rw [if_pos rfl] at hM
      injection hM with hM1 hM2
      subst hM1; subst hM2
      clear HM
      go_wp2_with fail
      go_ret2
      exact OutV.nil HB3.out.2
    | false =>
      have hM := HM.out
      rw [if_neg (by decide)] at hM
      injection hM with hM1 hM2
      subst hM1; subst hM2
      clear HM
      have HFa := Lib.hid (fates_any Av A2 vl cv b.chs.length c2 w3)
      have hn := below_new (w := w3) (.cells #[.slice Av vl cv, .slice A2 b.chs.length c2] 55)
      have HC := Lib.hid (HCo.out rfl (w3.alloc (.cells #[.slice Av vl cv, .slice A2 b.chs.length c2] 55)) (HB3.out.1.trans (hn.mono HB3.out.1.size)) w3.heap.size (World.alloc_heap_new w3 _))
      have HB4 := Lib.hid (HB3.out.2.trans (hn.mono HB3.out.2.size))
      clear hn
      go_wp2_with fail
      (with_reducible refine HFa.out.mono ?_)
      rintro e w4 ⟨rfl, rfl⟩
      go_wp2_with fail
      (with_reducible refine HC.out.mono ?_)
      rintro e w5 ⟨⟨r, rfl, hr⟩, hb⟩
      obtain ⟨A3, c3, rfl⟩ := hr.form
      have HB5 := Lib.hid (And.intro hr (HB4.out.trans (hb.mono HB4.out.size)))
      clear hb hr
      go_wp2_with fail
      go_ret2
      exact OutV.mk HB5.out.1 HB5.out.2
  · rw [if_neg he] at HM
    have hM := HM.out
    injection hM with hM1 hM2
    subst hM1; subst hM2
    clear HM
    obtain rfl := hu1 he
    have HB2 := Lib.hid (HB.out.trans ((below_new (w := w1) (.cells #[.slice none 0 0, .slice none 0 0] 55)).mono HB.out.size))
    unfold nilH at *
    clear hu0 hu1 HZ
    go_wp2_with fail
    go_ret2
    exact OutV.nil HB2.out
end Go.Proofs.YtplpogonkfnafaaGreat
namespace Go.Proofs.YtplpogonkfnafaaGreat
open Go.RowKit Go.Nm

def lastOut (b : Bk) : Int × Int := if openE b [] = 0 then ((b.chs.length : Int), 0) else (0, openE b [])
def hasOut (b : Bk) (n x : Int) : Bool × Int := if openE b [n] = 0 then (decide (x ∈ (vers b).getD n.toNat []), 0) else (false, openE b [n])
def OutB (r : Bool) (er : Int) (w : World) (e : Ending) (w' : World) : Prop := e = .returned (.tuple #[.bool r, .int .i64 er]) ∧ Below w.heap.size w w'
end Go.Proofs.YtplpogonkfnafaaGreat
