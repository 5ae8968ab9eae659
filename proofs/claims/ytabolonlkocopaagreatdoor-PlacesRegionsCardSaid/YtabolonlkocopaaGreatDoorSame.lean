
/- Two lists of squares are compared. -/
import Derived.Test.YtabolonlkocopaaGreatDoorNml
namespace Go.Proofs.YtabolonlkocopaaGreatDoor
open Go.RowKit Go.Plc

theorem same_step {a b : List Sq} {i n : Nat} {s t : Sq} (_ha : a.length = n) (_hb : b.length = n) (hs : a[i]? = some s) (ht : b[i]? = some t) (_hi : i < n) (h : a.take i = b.take i) (he : s = t) : a.take (i + 1) = b.take (i + 1) := by
  rw [List.take_add_one, List.take_add_one, h, hs, ht, he]
set_option maxRecDepth 100000 in
set_option maxHeartbeats 2000000 in
theorem SameSquares_any (u v : Value) (a b : List Sq) (w : World) (hu : SqSl w w.heap.size u a) (hv : SqSl w w.heap.size v b) (hna : a.length ≤ 1000000) :
    Calls Tryz.prog 14 #[u, v] w fun e w' => e = .returned (.bool (decide (a = b))) ∧ Below w.heap.size w w' := by
  obtain ⟨A, ca, rfl, hA⟩ := hu
  obtain ⟨B, cb, rfl, hB⟩ := hv
  have HA := Lib.hid hA
  have HB := Lib.hid hB
  clear hA hB
  by_cases hl : a.length = b.length
  · generalize hn : a.length = n at *
    rw [← hl]
    have HN := Lib.hid (And.intro hn hl.symm)
    clear hn hl
    go_enter Tryz.func14, Tryz.ntmps14
    go_wp2_with fail
    go_loopw [5] (fun k wr => ∃ i : Nat, k = .int .i64 (i : Int) ∧ i ≤ n ∧ a.take i = b.take i ∧ Below w.heap.size w wr) (fun k _ => n - (intOf k).toNat)
    case atStart => exact ⟨0, rfl, by omega, rfl, Below.refl _ _⟩
    case round =>
      obtain ⟨i, rfl, hin, htk, hbel⟩ := hrel
      have HT := Lib.hid (And.intro htk hbel)
      clear htk hbel
      by_cases hlt : i < n
      · obtain ⟨s, ad, hs, hm, rfl, hb, a0, a1, a2⟩ := (HA.out.below HT.out.2).at_ HN.out.1 hlt
        obtain ⟨t, ad', ht, hm', rfl, hb', b0, b1, b2⟩ := (HB.out.below HT.out.2).at_ HN.out.2 hlt
        have HS := Lib.hid (And.intro hs ht)
        clear hs ht hm hm'
        by_cases he : s = t
        · subst he
          go_wp2_with fail
          go_region
          have H2 := Lib.hid (show a.take (i + 1) = b.take (i + 1) ∧ Below w.heap.size w wr.drew from ⟨same_step HN.out.1 HN.out.2 HS.out.1 HS.out.2 hlt HT.out.1 rfl, HT.out.2.drew⟩)
          simp only [Exit.then]
          generalize wr.drew = w3 at *
          go_wp2_with fail
          go_roundw
          case rel => exact ⟨i + 1, by go_num, by omega, H2.out⟩
          case measure => simp [intOf]; omega
        · have H2 := Lib.hid (show decide (a = b) = false ∧ Below w.heap.size w wr.drew from ⟨by
            simp only [decide_eq_false_iff_not]
            intro e
            have h := HS.out.1
            rw [e, HS.out.2] at h
            injection h with h
            exact he h.symm, HT.out.2.drew⟩)
          obtain ⟨sl, sx, sy⟩ := s
          obtain ⟨tl, tx, ty⟩ := t
          dsimp only at *
          by_cases el : sl = tl
          · subst el
            by_cases ex : sx = tx
            · subst ex
              have ey : ¬ sy = ty := fun h => he (by rw [h])
              clear he
              go_wp2_with fail
              go_region
              simp only [Exit.then]
              generalize wr.drew = w3 at *
              go_wp2_with fail
              go_ret
              exact ⟨ret_b H2.out.1.symm, H2.out.2⟩
            · clear he
              go_wp2_with fail
              go_region
              simp only [Exit.then]
              generalize wr.drew = w3 at *
              go_wp2_with fail
              go_ret
              exact ⟨ret_b H2.out.1.symm, H2.out.2⟩
          · clear he
            go_wp2_with fail
            go_region
            simp only [Exit.then]
            generalize wr.drew = w3 at *
            go_wp2_with fail
            go_ret
            exact ⟨ret_b H2.out.1.symm, H2.out.2⟩
      · have HE := Lib.hid (show decide (a = b) = true by
          have h := HT.out.1
          rw [List.take_of_length_le (by have := HN.out.1; omega), List.take_of_length_le (by have := HN.out.2; omega)] at h
          simpa using h)
        go_wp2_with fail
        go_ret
        exact ⟨ret_b HE.out.symm, HT.out.2⟩
  · have HE := Lib.hid (show decide (a = b) = false by
      simp only [decide_eq_false_iff_not]
      intro e; exact hl (by rw [e]))
    have hne : ((a.length : Int) != (b.length : Int)) = true := by simp; omega
    generalize a.length = n at *
    generalize b.length = m at *
    go_enter Tryz.func14, Tryz.ntmps14
    go_wp2_with fail
    go_ret
    exact ⟨ret_b HE.out.symm, Below.refl _ _⟩
end Go.Proofs.YtabolonlkocopaaGreatDoor
