/- best, Best. -/
import Derived.Test.YthfegbcbpeedbaaDoorKyO
namespace Go.Ky
open Go.Nm
def bestStep (L : List Rw) (l : List Int) (P : Nat → Bool) (c : Nat) (st : Int × Bool × Int) : Int × Bool × Int :=
  if P c = true then (if (!st.2.1 || decide (worstF L c (l.getD c 0) < st.2.2)) = true then ((c : Int), true, worstF L c (l.getD c 0)) else st) else st
def bestS (L : List Rw) (l : List Int) (P : Nat → Bool) : Nat → Int × Bool × Int
  | 0 => (0, false, 0)
  | c + 1 => bestStep L l P c (bestS L l P c)
theorem bestS_next (L : List Rw) (l : List Int) (P : Nat → Bool) (c : Nat) : bestS L l P (c + 1) = bestStep L l P c (bestS L l P c) := rfl
def bestE (m : Mx) (l : List Int) : Int := if seenE m [l] = 0 then (if (bestS (remL m.rows l) l (fun c => !decZ (l.getD c 0)) l.length).2.1 = true then 0 else 3) else seenE m [l]
def bestC (m : Mx) (l : List Int) : Int := if bestE m l = 0 then (bestS (remL m.rows l) l (fun c => !decZ (l.getD c 0)) l.length).1 else 0
theorem bestS_zero (L : List Rw) (l : List Int) (P : Nat → Bool) : ∀ n, (bestS L l P n).2.1 = false → (bestS L l P n).1 = 0
  | 0, _ => rfl
  | n + 1, h => by
    rw [bestS_next] at h ⊢
    unfold bestStep at h ⊢
    split at h
    · rename_i hp
      rw [if_pos hp]
      split at h
      · cases h
      · rename_i hq
        rw [if_neg hq]
        exact bestS_zero L l P n h
    · rename_i hp
      rw [if_neg hp]
      exact bestS_zero L l P n h
end Go.Ky
namespace Go.Proofs.YthfegbcbpeedbaaDoor
open Go.RowKit Go.Nm Go.Ky

set_option maxRecDepth 100000 in
set_option maxHeartbeats 8000000 in
theorem bestB_any (g : Nat) (v u : Value) (L : List Rw) (l : List Int) (P : Nat → Bool) (w : World) (hv : IlSl w w.heap.size v L) (hu : InSl w w.heap.size u l) (hn : L.length ≤ 1000) (hl : l.length ≤ 1000) (hs : ∀ (k : Nat) (x : Int), l[k]? = some x → 0 ≤ x ∧ x ≤ 65535) (hL : ∀ r ∈ L, ∀ c < l.length, ∃ y, r.may[c]? = some y ∧ 0 ≤ y ∧ y ≤ 65535)
    (hF : ∀ X, Below w.heap.size w X → ∀ (c : Nat) (x : Int), l[c]? = some x → Calls Tryd.prog 85 #[.int .i64 (c : Int), .pointer (some ⟨g, 0, none⟩)] X fun e w' => e = .returned (.bool (P c)) ∧ Below X.heap.size X w') :
    Calls Tryd.prog 84 #[v, u, .func (.func 85) #[] #[.pointer (some ⟨g, 0, none⟩)]] w fun e w' => e = .returned (.tuple #[.int .i64 (bestS L l P l.length).1, .bool (bestS L l P l.length).2.1]) ∧ Below w.heap.size w w' := by
  have HU := Lib.hid hv
  have HT := Lib.hid hu
  have HF := Lib.hid hF
  have HS := Lib.hid hs
  have HLc := Lib.hid hL
  have HWo := Lib.hid (fun Y (h : Below w.heap.size w Y) (c : Nat) (x : Int) (hx : l[c]? = some x) => worst_any v L c x Y (((hv.below h).mono h.size)) hn (hs c x hx) (fun r hr => hL r hr c (List.getElem?_eq_some_iff.1 hx).1))
  obtain ⟨A, cc, rfl⟩ := hv.form
  obtain ⟨Al, cl, rfl, _⟩ := hu.form
  obtain ⟨nl, hnl⟩ : ∃ nl, l.length = nl := ⟨_, rfl⟩
  have HNl := Lib.hid hnl
  obtain ⟨n, h⟩ : ∃ n, L.length = n := ⟨_, rfl⟩
  rw [h] at HU HWo hn ⊢
  rw [hnl] at HT hl ⊢
  clear hv hu h hF hs hL hnl
  go_enter Tryd.func84, Tryd.ntmps84
  go_wp2_with fail
  go_loopw [6, 7, 8, 14] (fun cv fv lv iv wr => ∃ (i : Nat) (st : Int × Bool × Int), iv = .int .i64 (i : Int) ∧ cv = .int .i64 st.1 ∧ fv = .bool st.2.1 ∧ lv = .int .i64 st.2.2 ∧ i ≤ nl ∧ Below w.heap.size w wr ∧ bestS L l P i = st) (fun _ _ _ iv _ => nl - (intOf iv).toNat)
  case atStart => exact ⟨0, (0, false, 0), rfl, rfl, rfl, rfl, by omega, Below.refl _ _, rfl⟩
  case round =>
    obtain ⟨i, ⟨bc, bf, bl⟩, rfl, rfl, rfl, rfl, hin, hb, hst⟩ := hrel
    have HB := Lib.hid hb
    have HSt := Lib.hid hst
    clear hb hst
    simp only at *
    by_cases hlt : i < nl
    · have HA := Lib.hid (show InA wr wr.heap.size Al l from by obtain ⟨_, _, e, _, _, h⟩ := HT.out.step HB.out; cases e; exact h)
      obtain ⟨x, ad, hx, rfl, _, hcx⟩ := HA.out.at_ HNl.out hlt
      have HX := Lib.hid hx
      have HFi := Lib.hid (HF.out wr HB.out i x hx)
      have HN1 := Lib.hid (show bestS L l P (i + 1) = bestStep L l P i (bc, bf, bl) from by rw [← HSt.out]; exact bestS_next L l P i)
      clear hx
      go_wp2_with fail
      (with_reducible refine HFi.out.mono ?_)
      rintro e w1 ⟨rfl, hb⟩
      have HB1 := Lib.hid (HB.out.trans (hb.mono HB.out.size))
      clear hb HFi
      cases hp : P i with
      | false =>
        have HR := Lib.hid (show bestS L l P (i + 1) = (bc, bf, bl) from by rw [HN1.out]; unfold bestStep; rw [hp]; rfl)
        clear hp
        go_wp2_with fail
        go_roundw
        case rel => exact ⟨i + 1, (bc, bf, bl), by go_num, rfl, rfl, rfl, by omega, HB1.out, HR.out⟩
        case measure => simp [intOf]; omega
      | true =>
        have HW := Lib.hid (HWo.out w1 HB1.out i x HX.out)
        have HG := Lib.hid (show l.getD i 0 = x from by rw [List.getD_eq_getElem?_getD, HX.out]; rfl)
        have HR0 := Lib.hid (show bestS L l P (i + 1) = (if (!bf || decide (worstF L i x < bl)) = true then ((i : Int), true, worstF L i x) else (bc, bf, bl)) from by rw [HN1.out]; unfold bestStep; rw [hp, HG.out]; rfl)
        obtain ⟨wv, hwv⟩ : ∃ wv, worstF L i x = wv := ⟨_, rfl⟩
        rw [hwv] at HW HR0
        clear hp hwv
        go_wp2_with fail
        (with_reducible refine HW.out.mono ?_)
        rintro e w2 ⟨rfl, hb⟩
        have HB2 := Lib.hid (HB1.out.trans (hb.mono HB1.out.size))
        clear hb HW
        cases bf with
        | false =>
          have HR := Lib.hid (show bestS L l P (i + 1) = ((i : Int), true, wv) from by rw [HR0.out]; simp)
          go_wp2_with fail
          go_roundw
          case rel => exact ⟨i + 1, ((i : Int), true, wv), by go_num, rfl, rfl, rfl, by omega, HB2.out, HR.out⟩
          case measure => simp [intOf]; omega
        | true =>
          by_cases hlw : wv < bl
          · have HR := Lib.hid (show bestS L l P (i + 1) = ((i : Int), true, wv) from by rw [HR0.out]; simp [hlw])
            go_wp2_with fail
            go_roundw
            case rel => exact ⟨i + 1, ((i : Int), true, wv), by go_num, rfl, rfl, rfl, by omega, HB2.out, HR.out⟩
            case measure => simp [intOf]; omega
          · have HR := Lib.hid (show bestS L l P (i + 1) = (bc, true, bl) from by rw [HR0.out]; simp [hlw])
            go_wp2_with fail
            go_roundw
            case rel => exact ⟨i + 1, (bc, true, bl), by go_num, rfl, rfl, rfl, by omega, HB2.out, HR.out⟩
            case measure => simp [intOf]; omega
    · obtain rfl : nl = i := by omega
      go_wp2_with fail
      go_ret2
      exact ⟨by rw [HSt.out]; rfl, HB.out⟩
set_option maxRecDepth 100000 in
set_option maxHeartbeats 8000000 in
theorem bestG_any (g1 g2 : Nat) (v u : Value) (L : List Rw) (l : List Int) (P : Nat → Bool) (w : World) (hv : IlSl w w.heap.size v L) (hu : InSl w w.heap.size u l) (hn : L.length ≤ 1000) (hl : l.length ≤ 1000) (hs : ∀ (k : Nat) (x : Int), l[k]? = some x → 0 ≤ x ∧ x ≤ 65535) (hL : ∀ r ∈ L, ∀ c < l.length, ∃ y, r.may[c]? = some y ∧ 0 ≤ y ∧ y ≤ 65535)
    (hF : ∀ X, Below w.heap.size w X → ∀ (c : Nat) (x : Int), l[c]? = some x → Calls Tryd.prog 121 #[.int .i64 (c : Int), .pointer (some ⟨g1, 0, none⟩), .pointer (some ⟨g2, 0, none⟩)] X fun e w' => e = .returned (.bool (P c)) ∧ Below X.heap.size X w') :
    Calls Tryd.prog 84 #[v, u, .func (.func 121) #[] #[.pointer (some ⟨g1, 0, none⟩), .pointer (some ⟨g2, 0, none⟩)]] w fun e w' => e = .returned (.tuple #[.int .i64 (bestS L l P l.length).1, .bool (bestS L l P l.length).2.1]) ∧ Below w.heap.size w w' := by
  have HU := Lib.hid hv
  have HT := Lib.hid hu
  have HF := Lib.hid hF
  have HS := Lib.hid hs
  have HLc := Lib.hid hL
  have HWo := Lib.hid (fun Y (h : Below w.heap.size w Y) (c : Nat) (x : Int) (hx : l[c]? = some x) => worst_any v L c x Y (((hv.below h).mono h.size)) hn (hs c x hx) (fun r hr => hL r hr c (List.getElem?_eq_some_iff.1 hx).1))
  obtain ⟨A, cc, rfl⟩ := hv.form
  obtain ⟨Al, cl, rfl, _⟩ := hu.form
  obtain ⟨nl, hnl⟩ : ∃ nl, l.length = nl := ⟨_, rfl⟩
  have HNl := Lib.hid hnl
  obtain ⟨n, h⟩ : ∃ n, L.length = n := ⟨_, rfl⟩
  rw [h] at HU HWo hn ⊢
  rw [hnl] at HT hl ⊢
  clear hv hu h hF hs hL hnl
  go_enter Tryd.func84, Tryd.ntmps84
  go_wp2_with fail
  go_loopw [6, 7, 8, 14] (fun cv fv lv iv wr => ∃ (i : Nat) (st : Int × Bool × Int), iv = .int .i64 (i : Int) ∧ cv = .int .i64 st.1 ∧ fv = .bool st.2.1 ∧ lv = .int .i64 st.2.2 ∧ i ≤ nl ∧ Below w.heap.size w wr ∧ bestS L l P i = st) (fun _ _ _ iv _ => nl - (intOf iv).toNat)
  case atStart => exact ⟨0, (0, false, 0), rfl, rfl, rfl, rfl, by omega, Below.refl _ _, rfl⟩
  case round =>
    obtain ⟨i, ⟨bc, bf, bl⟩, rfl, rfl, rfl, rfl, hin, hb, hst⟩ := hrel
    have HB := Lib.hid hb
    have HSt := Lib.hid hst
    clear hb hst
    simp only at *
    by_cases hlt : i < nl
    · have HA := Lib.hid (show InA wr wr.heap.size Al l from by obtain ⟨_, _, e, _, _, h⟩ := HT.out.step HB.out; cases e; exact h)
      obtain ⟨x, ad, hx, rfl, _, hcx⟩ := HA.out.at_ HNl.out hlt
      have HX := Lib.hid hx
      have HFi := Lib.hid (HF.out wr HB.out i x hx)
      have HN1 := Lib.hid (show bestS L l P (i + 1) = bestStep L l P i (bc, bf, bl) from by rw [← HSt.out]; exact bestS_next L l P i)
      clear hx
      go_wp2_with fail
      (with_reducible refine HFi.out.mono ?_)
      rintro e w1 ⟨rfl, hb⟩
      have HB1 := Lib.hid (HB.out.trans (hb.mono HB.out.size))
      clear hb HFi
      cases hp : P i with
      | false =>
        have HR := Lib.hid (show bestS L l P (i + 1) = (bc, bf, bl) from by rw [HN1.out]; unfold bestStep; rw [hp]; rfl)
        clear hp
        go_wp2_with fail
        go_roundw
        case rel => exact ⟨i + 1, (bc, bf, bl), by go_num, rfl, rfl, rfl, by omega, HB1.out, HR.out⟩
        case measure => simp [intOf]; omega
      | true =>
        have HW := Lib.hid (HWo.out w1 HB1.out i x HX.out)
        have HG := Lib.hid (show l.getD i 0 = x from by rw [List.getD_eq_getElem?_getD, HX.out]; rfl)
        have HR0 := Lib.hid (show bestS L l P (i + 1) = (if (!bf || decide (worstF L i x < bl)) = true then ((i : Int), true, worstF L i x) else (bc, bf, bl)) from by rw [HN1.out]; unfold bestStep; rw [hp, HG.out]; rfl)
        obtain ⟨wv, hwv⟩ : ∃ wv, worstF L i x = wv := ⟨_, rfl⟩
        rw [hwv] at HW HR0
        clear hp hwv
        go_wp2_with fail
        (with_reducible refine HW.out.mono ?_)
        rintro e w2 ⟨rfl, hb⟩
        have HB2 := Lib.hid (HB1.out.trans (hb.mono HB1.out.size))
        clear hb HW
        cases bf with
        | false =>
          have HR := Lib.hid (show bestS L l P (i + 1) = ((i : Int), true, wv) from by rw [HR0.out]; simp)
          go_wp2_with fail
          go_roundw
          case rel => exact ⟨i + 1, ((i : Int), true, wv), by go_num, rfl, rfl, rfl, by omega, HB2.out, HR.out⟩
          case measure => simp [intOf]; omega
        | true =>
          by_cases hlw : wv < bl
          · have HR := Lib.hid (show bestS L l P (i + 1) = ((i : Int), true, wv) from by rw [HR0.out]; simp [hlw])
            go_wp2_with fail
            go_roundw
            case rel => exact ⟨i + 1, ((i : Int), true, wv), by go_num, rfl, rfl, rfl, by omega, HB2.out, HR.out⟩
            case measure => simp [intOf]; omega
          · have HR := Lib.hid (show bestS L l P (i + 1) = (bc, true, bl) from by rw [HR0.out]; simp [hlw])
            go_wp2_with fail
            go_roundw
            case rel => exact ⟨i + 1, (bc, true, bl), by go_num, rfl, rfl, rfl, by omega, HB2.out, HR.out⟩
            case measure => simp [intOf]; omega
    · obtain rfl : nl = i := by omega
      go_wp2_with fail
      go_ret2
      exact ⟨by rw [HSt.out]; rfl, HB.out⟩
end Go.Proofs.YthfegbcbpeedbaaDoor
