/- The reference: best, useful characters alone. -/
import Derived.Test.YthfegbcbpeedbaaDoorKyPo
namespace Go.Ky
open Go.Nm
/-- the least number of names that remain when the state of a character becomes known -/
def lowF (m : Mx) (l : List Int) (c : Nat) : Int := (Go.Ky.spS m l c (m.st.getD c 0).toNat).1
end Go.Ky
namespace Go.Proofs.YthfegbcbpeedbaaDoor
open Go.RowKit Go.Nm Go.Ky

set_option maxRecDepth 100000 in
set_option maxHeartbeats 8000000 in
theorem rbestU_any (v u : Value) (m : Mx) (l : List Int) (w : World) (hv : MxV w v m) (hs : MSm m) (hu : InSl w w.heap.size u l) (hm : mxF m = true) (hl : setsF m.st l = true) :
    Calls Tryd.prog 87 #[v, u, .bool true] w fun e w' => e = .returned (.int .i64 (outB (bestS (remL m.rows l) l (fun c => !decZ (l.getD c 0) && !decide (lowF m l c = ((remL m.rows l).length : Int))) l.length))) ∧ Below w.heap.size w w' := by
  have hll := sets_len' hl
  have hns : m.st.length ≤ 1000 := hs.1
  obtain ⟨A1, c1, A2, c2, W0, rfl, hW0, hb0, hM, hS, hR, hX⟩ := mx_box hv
  have HB0 := Lib.hid hb0
  have HW0 := Lib.hid hW0
  have HX := Lib.hid hX
  have hu0 := hu.step hb0
  have HRe := Lib.hid (rremain_any _ u m l W0 (hM W0 (Below.refl _ _)) hs hu0 (fun r hr => hll.trans (sets_len' ((mx_all hm).2.2 r hr)).symm) (by omega))
  have HSp := Lib.hid (fun (c : Nat) (hc : c < l.length) Y (hb : Below W0.heap.size W0 Y) => show Calls Tryd.prog 83 _ Y fun e w' => e = .returned (.tuple #[.int .i64 (lowF m l c), .int .i64 (worstF (remL m.rows l) c (l.getD c 0))]) ∧ Below Y.heap.size Y w' from by
    obtain ⟨q, hq⟩ : ∃ q, m.st[c]? = some q := ⟨_, List.getElem?_eq_getElem (by omega)⟩
    have h := rspread_any _ u m l c Y (hM Y hb) hs (hu0.step hb) hm hl hc hq
    have e : lowF m l c = (spS m l c q.toNat).1 := by unfold lowF; rw [List.getD_eq_getElem?_getD, hq]; rfl
    rw [spS_worst hm hl hq, ← e] at h
    exact h)
  have HRg := Lib.hid (fun (c : Nat) (x : Int) (hx : l[c]? = some x) => sets_range hm hl hx)
  have HNx := Lib.hid (fun c => bestS_next (remL m.rows l) l (fun c => !decZ (l.getD c 0) && !decide (lowF m l c = ((remL m.rows l).length : Int))) c)
  have HNn := Lib.hid (bestS_nonneg (remL m.rows l) l (fun c => !decZ (l.getD c 0) && !decide (lowF m l c = ((remL m.rows l).length : Int))))
  have HZ := Lib.hid (show bestS (remL m.rows l) l (fun c => !decZ (l.getD c 0) && !decide (lowF m l c = ((remL m.rows l).length : Int))) 0 = (0, false, 0) from rfl)
  have HAu := Lib.hid (show ∀ Y, Below W0.heap.size W0 Y → ∀ A c, u = .slice A l.length c → InA Y Y.heap.size A l from fun Y h A c e => by obtain ⟨_, _, e2, _, _, h⟩ := hu0.step h; rw [e] at e2; cases e2; exact h)
  obtain ⟨Au, cu, rfl, _⟩ := hu0.form
  have HA := Lib.hid (fun Y h => HAu.out Y h Au cu rfl)
  obtain ⟨k0, k1⟩ := hX W0 (Below.refl _ _)
  obtain ⟨B, hB⟩ : ∃ B, bestS (remL m.rows l) l (fun c => !decZ (l.getD c 0) && !decide (lowF m l c = ((remL m.rows l).length : Int))) = B := ⟨_, rfl⟩
  rw [hB] at HNx HNn HZ ⊢
  unfold bestStep at HNx
  generalize m.st.length = ns at *
  generalize m.rows.length = nr at *
  obtain ⟨n, hn⟩ : ∃ n, l.length = n := ⟨_, rfl⟩
  have HN := Lib.hid hn
  have hn1 : n ≤ 1000 := by omega
  rw [hn] at HRe HSp ⊢
  clear hv hs hu hm hl hW0 hb0 hM hS hR hX hu0 HAu hB hn hll hns
  go_enter Tryd.func87, Tryd.ntmps87
  go_wp2_with fail
  rw [HW0.out]
  (try go_wp2_with fail)
  (with_reducible refine HRe.out.mono ?_)
  rintro e w1 ⟨⟨r, rfl, hr, _⟩, hb⟩
  obtain ⟨Ar, cr, rfl, _⟩ := hr.form
  have HB1 := Lib.hid hb
  clear hr hb k0 k1 HRe
  have HNr := Lib.hid (show ((remL m.rows l).map (·.nm)).length = (remL m.rows l).length from List.length_map _)
  obtain ⟨nrm, hnrm⟩ : ∃ n, ((remL m.rows l).map (·.nm)).length = n := ⟨_, rfl⟩
  rw [hnrm] at HNr ⊢
  rw [← HNr.out] at HNx
  clear hnrm
  go_wp2_with fail
  go_loopw [7, 8, 10] (fun ov fv iv wr => ∃ i : Nat, ov = .int .i64 (outB (B i)) ∧ fv = .int .i64 (B i).2.2 ∧ iv = .int .i64 (i : Int) ∧ i ≤ n ∧ Below W0.heap.size W0 wr) (fun _ _ iv _ => n - (intOf iv).toNat)
  case atStart => exact ⟨0, by rw [HZ.out]; rfl, by rw [HZ.out], rfl, by omega, HB1.out⟩
  case round =>
    obtain ⟨i, rfl, rfl, rfl, hin, hb⟩ := hrel
    have HB := Lib.hid hb
    clear hb
    by_cases hlt : i < n
    · obtain ⟨x, ad, hx, rfl, _, hcx⟩ := (HA.out wr HB.out).at_ HN.out hlt
      have hx1 := HRg.out i x hx
      obtain ⟨x, rfl⟩ : ∃ k : Nat, x = (k : Int) := ⟨x.toNat, by omega⟩
      have hg : l.getD i 0 = (x : Int) := by rw [List.getD_eq_getElem?_getD, hx]; rfl
      have HD := Lib.hid (rdecided_any x wr (by omega) (by omega))
      have HNi := HNx.out i
      have HS1 := HSp.out i hlt
      simp only [hg] at HNi HS1
      obtain ⟨wo, hwo⟩ : ∃ z, worstF (remL m.rows l) i (x : Int) = z := ⟨_, rfl⟩
      rw [hwo] at HNi HS1
      obtain ⟨lo, hlo⟩ : ∃ z, lowF m l i = z := ⟨_, rfl⟩
      rw [hlo] at HNi HS1
      have HS2 := Lib.hid HS1
      have HNi2 := Lib.hid HNi
      obtain ⟨k0, k1⟩ := HX.out wr HB.out
      clear hx hx1 hg hwo hlo HNi HS1
      cases hd : decZ (x : Int) with
      | true =>
        rw [hd] at HD HNi2
        have HF := Lib.hid (show B (i + 1) = B i from by rw [HNi2.out]; rfl)
        clear hd HNi2
        go_wp2_with fail
        (with_reducible refine HD.out.mono ?_)
        rintro e w2 ⟨rfl, rfl⟩
        go_wp2_with fail
        go_roundw
        case rel => exact ⟨i + 1, by rw [HF.out], by rw [HF.out], by go_num, by omega, HB.out⟩
        case measure => simp [intOf]; omega
      | false =>
        rw [hd] at HD HNi2
        have HS3 := Lib.hid (HS2.out wr HB.out)
        clear hd HS2
        go_wp2_with fail
        (with_reducible refine HD.out.mono ?_)
        rintro e w2 ⟨rfl, rfl⟩
        go_wp2_with fail
        (with_reducible refine HS3.out.mono ?_)
        rintro e w3 ⟨rfl, hb⟩
        have HB2 := Lib.hid (HB.out.trans (hb.mono HB.out.size))
        by_cases h5 : lo = (nrm : Int)
        · have HF := Lib.hid (show B (i + 1) = B i from by rw [HNi2.out, decide_eq_true h5]; rfl)
          subst h5
          clear hb HNi2 HD HS3 k0 k1
          go_wp2_with fail
          go_roundw
          case rel => exact ⟨i + 1, by rw [HF.out], by rw [HF.out], by go_num, by omega, HB2.out⟩
          case measure => simp [intOf]; omega
        · have hne : (lo == (nrm : Int)) = false := by simpa using h5
          have HO := Lib.hid (show outB (B i) = (if (B i).2.1 = true then (B i).1 else -1) from rfl)
          have HNi3 := Lib.hid (show B (i + 1) = (if (!(B i).2.1 || decide (wo < (B i).2.2)) = true then ((i : Int), true, wo) else B i) from by rw [HNi2.out, decide_eq_false h5]; rfl)
          have HP := Lib.hid (HNn.out i)
          obtain ⟨ou, hou⟩ : ∃ z, outB (B i) = z := ⟨_, rfl⟩
          obtain ⟨of, hof⟩ : ∃ z, (B i).2.2 = z := ⟨_, rfl⟩
          obtain ⟨fd, hfd⟩ : ∃ z, (B i).2.1 = z := ⟨_, rfl⟩
          have HOu := Lib.hid (And.intro hou hof)
          rw [hou, hfd] at HO
          rw [hof, hfd] at HNi3
          rw [hou, hof]
          clear hb hou hof hfd HNi2 HD HS3 k0 k1
          cases fd with
          | false =>
            have h0 : ou < 0 := by have h := HO.out; simp at h; omega
            have HF := Lib.hid (show B (i + 1) = ((i : Int), true, wo) from by rw [HNi3.out]; rfl)
            go_wp2_with fail
            go_roundw
            case rel => exact ⟨i + 1, by rw [HF.out]; rfl, by rw [HF.out], by go_num, by omega, HB2.out⟩
            case measure => simp [intOf]; omega
          | true =>
            have h0 : ¬ ou < 0 := by have h := HO.out; have h2 := HP.out; simp at h; omega
            by_cases h1 : wo < of
            · have HF := Lib.hid (show B (i + 1) = ((i : Int), true, wo) from by rw [HNi3.out, decide_eq_true h1]; rfl)
              go_wp2_with fail
              go_roundw
              case rel => exact ⟨i + 1, by rw [HF.out]; rfl, by rw [HF.out], by go_num, by omega, HB2.out⟩
              case measure => simp [intOf]; omega
            · have HF := Lib.hid (show B (i + 1) = B i from by rw [HNi3.out, decide_eq_false h1]; rfl)
              go_wp2_with fail
              go_roundw
              case rel => exact ⟨i + 1, by rw [HF.out, HOu.out.1], by rw [HF.out, HOu.out.2], by go_num, by omega, HB2.out⟩
              case measure => simp [intOf]; omega
    · obtain rfl : n = i := by omega
      go_wp2_with fail
      go_ret
      exact ⟨rfl, HB0.out.trans (HB.out.mono HB0.out.size)⟩
end Go.Proofs.YthfegbcbpeedbaaDoor
