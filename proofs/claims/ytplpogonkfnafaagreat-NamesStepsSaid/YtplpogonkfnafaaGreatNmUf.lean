/- The reference's Compose. -/
import Derived.Test.YtplpogonkfnafaaGreatNmUe
namespace Go.Proofs.YtplpogonkfnafaaGreat
open Go.RowKit Go.Nm

theorem mapU_next {α β : Type} {f : α → β} {l : List α} {i : Nat} {x : α} (h : l[i]? = some x) : (l.take (i + 1)).map f = (l.take i).map f ++ [f x] := by
  rw [show l.take (i + 1) = l.take i ++ [x] from by rw [List.take_add_one, h]; rfl, List.map_append]; rfl
/-- the names to which a list leads, as the reference collects them -/
def cpF (l : List Int) (Z : List (Int × List Int)) (o : List Int) : List Int := Z.foldl (fun o p => if p.1 ∈ l then putsF o p.2 else o) o
theorem cpF_next {l : List Int} {Z : List (Int × List Int)} {o : List Int} {k : Nat} {p : Int × List Int} (h : Z[k]? = some p) : cpF l (Z.take (k + 1)) o = if p.1 ∈ l then putsF (cpF l (Z.take k) o) p.2 else cpF l (Z.take k) o := by
  unfold cpF
  rw [show Z.take (k + 1) = Z.take k ++ [p] from by rw [List.take_add_one, h]; rfl, List.foldl_append]; rfl
theorem mem_cpF {l : List Int} {y : Int} : ∀ {Z : List (Int × List Int)} {o : List Int}, y ∈ cpF l Z o ↔ y ∈ o ∨ ∃ p ∈ Z, p.1 ∈ l ∧ y ∈ p.2
  | [], o => by simp [cpF]
  | q :: Z, o => by
    show y ∈ cpF l Z (if q.1 ∈ l then putsF o q.2 else o) ↔ _
    rw [mem_cpF]
    by_cases h : q.1 ∈ l
    · rw [if_pos h, mem_putsF]
      constructor
      · rintro ((h1 | h1) | ⟨p, h1, h2⟩)
        · exact .inl h1
        · exact .inr ⟨q, by simp, h, h1⟩
        · exact .inr ⟨p, by simp [h1], h2⟩
      · rintro (h1 | ⟨p, h1, h2, h3⟩)
        · exact .inl (.inl h1)
        · rcases List.mem_cons.1 h1 with rfl | h1
          · exact .inl (.inr h3)
          · exact .inr ⟨p, h1, h2, h3⟩
    · rw [if_neg h]
      constructor
      · rintro (h1 | ⟨p, h1, h2⟩)
        · exact .inl h1
        · exact .inr ⟨p, by simp [h1], h2⟩
      · rintro (h1 | ⟨p, h1, h2, h3⟩)
        · exact .inl h1
        · rcases List.mem_cons.1 h1 with rfl | h1
          · exact absurd h2 h
          · exact .inr ⟨p, h1, h2, h3⟩
theorem inc_cpF {l : List Int} : ∀ {Z : List (Int × List Int)} {o : List Int}, Inc o → Inc (cpF l Z o)
  | [], _, h => h
  | q :: Z, o, h => by
    show Inc (cpF l Z (if q.1 ∈ l then putsF o q.2 else o))
    refine inc_cpF ?_
    split
    · exact putsF_inc h
    · exact h
theorem cpF_len {l : List Int} : ∀ {Z : List (Int × List Int)} {o : List Int}, (∀ p ∈ Z, p.2.length ≤ 1000) → (cpF l Z o).length ≤ o.length + 1000 * Z.length
  | [], o, _ => by simp [cpF]
  | q :: Z, o, h => by
    show (cpF l Z (if q.1 ∈ l then putsF o q.2 else o)).length ≤ _
    have h1 := cpF_len (l := l) (Z := Z) (o := if q.1 ∈ l then putsF o q.2 else o) (fun p hp => h p (by simp [hp]))
    have h2 := h q (by simp)
    have h3 := putsF_len q.2 o
    rw [List.length_cons, Nat.mul_succ]
    split at h1 <;> simp_all <;> omega
theorem zip_mem {M : List Int} {b : List (List Int)} {p : Int × List Int} : p ∈ M.zip b ↔ ∃ k : Nat, M[k]? = some p.1 ∧ b[k]? = some p.2 := by
  constructor
  · intro h
    obtain ⟨k, hk⟩ := List.getElem?_of_mem h
    exact ⟨k, List.getElem?_zip_eq_some.1 hk⟩
  · rintro ⟨k, h1, h2⟩
    exact List.mem_of_getElem? (List.getElem?_zip_eq_some.2 ⟨h1, h2⟩)
theorem cp_rows {M : List Int} {a b : List (List Int)} : CmN M a b (a.map fun l => cpF l (M.zip b) []) := by
  refine ⟨List.length_map _, fun i l r h1 h2 => ?_⟩
  rw [List.getElem?_map, h1] at h2
  injection h2 with h2
  subst h2
  refine ⟨inc_cpF List.Pairwise.nil, fun y => ?_⟩
  rw [mem_cpF]
  constructor
  · rintro (h | ⟨p, h1, h2, h3⟩)
    · cases h
    · obtain ⟨k, h4, h5⟩ := zip_mem.1 h1
      exact ⟨p.1, h2, k, p.2, h4, h5, h3⟩
  · rintro ⟨z, h2, k, bl, h4, h5, h3⟩
    exact .inr ⟨(z, bl), zip_mem.2 ⟨k, h4, h5⟩, h2, h3⟩
theorem cm_one {M : List Int} {a b R S : List (List Int)} (h1 : CmN M a b R) (h2 : CmN M a b S) : R = S := by
  refine List.ext_getElem? fun i => ?_
  by_cases hi : i < a.length
  · have e1 : R[i]? = some (R[i]'(by have := h1.1; omega)) := List.getElem?_eq_getElem _
    have e2 : S[i]? = some (S[i]'(by have := h2.1; omega)) := List.getElem?_eq_getElem _
    have e0 : a[i]? = some a[i] := List.getElem?_eq_getElem hi
    rw [e1, e2]
    obtain ⟨i1, m1⟩ := h1.2 i _ _ e0 e1
    obtain ⟨i2, m2⟩ := h2.2 i _ _ e0 e2
    exact congrArg some (inc_ext i1 i2 fun z => by rw [m1, m2])
  · rw [List.getElem?_eq_none (by have := h1.1; omega), List.getElem?_eq_none (by have := h2.1; omega)]
def RCmOk (M : List Int) (a b : List (List Int)) : Prop := M.length ≤ 400 ∧ Nms M ∧ a.length ≤ 400 ∧ a.all (rwL M) = true ∧ b.length = M.length ∧ (b.all fun l => decide (Nms l)) = true
theorem cm_iff {M : List Int} {a b : List (List Int)} : RCmOk M a b ↔ CmOk M a b := by
  unfold RCmOk CmOk
  rw [side_iff]
  constructor
  · rintro ⟨h1, h2, h3, h4, h5, h6⟩; exact ⟨⟨h1, h2⟩, h5, h6, h3, by rw [← all_rw h2]; exact h4⟩
  · rintro ⟨⟨h1, h2⟩, h5, h6, h3, h4⟩; exact ⟨h1, h2, h3, by rw [all_rw h2]; exact h4, h5, h6⟩
set_option maxRecDepth 100000 in
set_option maxHeartbeats 16000000 in
theorem rCompose_any (ua ub um : Value) (a b : List (List Int)) (M : List Int) (w : World) (hua : VsSl w w.heap.size ua a) (hub : VsSl w w.heap.size ub b) (hum : InSl w w.heap.size um M) (hal : a.length ≤ 1000) (hbl : b.length ≤ 1000) (hMl : M.length ≤ 1000) (ha : ∀ l ∈ a, l.length ≤ 1000) (hb : ∀ l ∈ b, l.length ≤ 1000) :
    Calls Tryz.prog 10 #[ua, ub, um] w (CmPost M a b w) := by
  have HR1 := Lib.hid (rrising_any um M w hum (by omega))
  have HRo := Lib.hid (fun Y (h : Below w.heap.size w Y) => rrows_any ua um a a.length M Y ((hua.below h).mono h.size) (hum.step h) (by omega) (by omega) (by omega) (fun l hl => Nat.le_trans (ha l hl) (by omega)))
  have HRb := Lib.hid (fun l (v : Value) Y (hl : l ∈ b) (h : InSl Y Y.heap.size v l) => rrising_any v l Y h (Nat.le_trans (hb l hl) (by omega)))
  have HVa := Lib.hid hua
  have HVb := Lib.hid hub
  have HAl := Lib.hid ha
  have HBl := Lib.hid hb
  obtain ⟨Aa, ca, rfl⟩ := hua.form
  obtain ⟨Ab, cb, rfl⟩ := hub.form
  obtain ⟨Am, cm, rfl, _⟩ := hum.form
  have HMi := Lib.hid (show InA w w.heap.size Am M from by obtain ⟨_, _, e, _, _, h⟩ := hum; cases e; exact h)
  obtain ⟨na, hna⟩ : ∃ na, a.length = na := ⟨_, rfl⟩
  obtain ⟨nb, hnb⟩ : ∃ nb, b.length = nb := ⟨_, rfl⟩
  obtain ⟨nm, hnm⟩ : ∃ nm, M.length = nm := ⟨_, rfl⟩
  have HNa := Lib.hid hna
  have HNb := Lib.hid hnb
  have HNm := Lib.hid hnm
  have HNo := Lib.hid (@cm_iff M a b)
  rw [hna] at HVa HRo hal ⊢
  rw [hnb] at HVb hbl ⊢
  rw [hnm] at HR1 HRo hMl ⊢
  obtain ⟨rb, hrb⟩ : ∃ rb, (decide (na = na ∧ na ≤ 400) && a.all (rwL M)) = rb := ⟨_, rfl⟩
  rw [hrb] at HRo
  have HRB := Lib.hid (show (decide (na ≤ 400) && a.all (rwL M)) = rb from by rw [← hrb]; simp)
  clear hua hub hum ha hb hna hnb hnm hrb
  have bad : ∀ {P : Prop} {w' : World}, (P → False) → (RCmOk M a b → P) → Below w.heap.size w w' → CmPost M a b w (.returned (.tuple #[.slice none 0 0, .int .i64 1])) w' := fun h1 h2 hb => .inr ⟨fun h => h1 (h2 (HNo.out.2 h)), ⟨⟨_, rfl, VsSl.none _ _⟩, hb⟩⟩
  by_cases h1 : 400 < nm
  · have q1 : (400 : Int) < (nm : Int) := by omega
    have HH := Lib.hid h1
    clear h1
    go_enter Tryz.func10, Tryz.ntmps10
    go_wp2_with fail
    go_ret2
    exact bad (P := nm ≤ 400) (fun h => by have := HH.out; omega) (fun h => by have := h.1; have := HNm.out; omega) (Below.refl _ _)
  have q1 : ¬ (400 : Int) < (nm : Int) := by omega
  have HM4 := Lib.hid (show nm ≤ 400 by omega)
  clear h1
  go_enter Tryz.func10, Tryz.ntmps10
  go_wp2_with fail
  (with_reducible refine HR1.out.mono ?_)
  rintro e w1 ⟨rfl, hb⟩
  have HB1 := Lib.hid hb
  have HE1 := Lib.hid (HRo.out w1 hb)
  clear hb HR1 HRo
  by_cases hS : Nms M
  case neg =>
    have HH := Lib.hid hS
    rw [decide_eq_false hS]
    clear hS
    go_wp2_with fail
    go_ret2
    exact bad HH.out (fun h => h.2.1) HB1.out
  case pos =>
  have HSm := Lib.hid hS
  rw [decide_eq_true hS]
  clear hS
  go_wp2_with fail
  (with_reducible refine HE1.out.mono ?_)
  rintro e w2 ⟨rfl, hb⟩
  have HB2 := Lib.hid (HB1.out.trans (hb.mono HB1.out.size))
  clear hb HE1
  cases rb with
  | false =>
    go_wp2_with fail
    go_ret2
    exact bad (P := (decide (na ≤ 400) && a.all (rwL M)) = true) (fun h => by rw [HRB.out] at h; cases h) (fun h => by
      rw [Bool.and_eq_true]
      exact ⟨decide_eq_true (by have := h.2.2.1; have := HNa.out; omega), h.2.2.2.1⟩) HB2.out
  | true =>
  have hR := HRB.out
  rw [Bool.and_eq_true] at hR
  obtain ⟨hR1, hR2⟩ := hR
  have hna4 : na ≤ 400 := of_decide_eq_true hR1
  have HR2 := Lib.hid hR2
  clear hR1 hR2
  by_cases hbm : nb = nm
  case neg =>
    have hq : ((nb : Int) != (nm : Int)) = true := by simp; omega
    have HH := Lib.hid hbm
    clear hbm
    go_wp2_with fail
    go_ret2
    exact bad HH.out (fun h => by have := h.2.2.2.2.1; have := HNb.out; have := HNm.out; omega) HB2.out
  case pos =>
  subst hbm
  have hq : ((nb : Int) != (nb : Int)) = false := by simp
  obtain ⟨W2, hW2⟩ : ∃ W2, W2 = w2 := ⟨_, rfl⟩
  subst hW2
  go_wp2_with fail
  clear hq
  go_loopw [8] (fun iv wr => ∃ i : Nat, iv = .int .i64 (i : Int) ∧ i ≤ nb ∧ Below W2.heap.size W2 wr ∧ ((b.take i).all fun l => decide (Nms l)) = true) (fun iv _ => nb - (intOf iv).toNat)
  case atStart => exact ⟨0, rfl, by omega, Below.refl _ _, rfl⟩
  case round =>
    obtain ⟨i, rfl, hin, hb, hg⟩ := hrel
    have HG := Lib.hid hg
    have HB := Lib.hid (HB2.out.trans (hb.mono HB2.out.size))
    have HBi := Lib.hid hb
    clear hb hg
    by_cases hlt : i < nb
    · obtain ⟨ad, ul, l, rfl, hbd, hl, hcl0, hin2⟩ := HVb.out.at_ hlt
      have hcl := (HB.out.cell (p := ad.add i) (by rw [add_block]; exact hbd)).trans hcl0
      have HL := Lib.hid hl
      have HRl := Lib.hid (HRb.out l ul wr (List.mem_of_getElem? hl) ((hin2.below HB.out).mono HB.out.size))
      obtain ⟨Al, cl, rfl, _⟩ := hin2.form
      clear hcl0 hbd hin2 hl
      go_wp2_with fail
      (with_reducible refine HRl.out.mono ?_)
      rintro e w3 ⟨rfl, hb⟩
      have HB3 := Lib.hid (And.intro (HB.out.trans (hb.mono HB.out.size)) (HBi.out.trans (hb.mono HBi.out.size)))
      clear hb hcl HRl
      by_cases hN : Nms l
      case neg =>
        have HH := Lib.hid (show (b.all fun l => decide (Nms l)) = false from all_bad HL.out (decide_eq_false hN))
        rw [decide_eq_false hN]
        clear hN
        go_wp2_with fail
        go_ret2
        exact bad (P := (b.all fun l => decide (Nms l)) = true) (fun h => by rw [HH.out] at h; cases h) (fun h => h.2.2.2.2.2) HB3.out.1
      case pos =>
        have HT := Lib.hid (show ((b.take (i + 1)).all fun l => decide (Nms l)) = true from by rw [all_next HL.out, HG.out]; exact decide_eq_true hN)
        rw [decide_eq_true hN]
        clear hN
        go_wp2_with fail
        go_roundw
        case rel => exact ⟨i + 1, by go_num, by omega, HB3.out.2, HT.out⟩
        case measure => simp [intOf]; omega
    · obtain rfl : nb = i := by omega
      have HOk := Lib.hid (HNo.out.1 ⟨by have := HM4.out; have := HNm.out; omega, HSm.out, by have := HNa.out; omega, HR2.out, by have := HNb.out; have := HNm.out; omega, by have h := HG.out; rwa [show b.take nb = b from List.take_of_length_le (by have := HNb.out; omega)] at h⟩)
      obtain ⟨Z, hZ⟩ : ∃ Z, M.zip b = Z := ⟨_, rfl⟩
      have HZ := Lib.hid hZ
      have HZl := Lib.hid (show Z.length ≤ nb from by rw [← hZ, List.length_zip]; have := HNb.out; omega)
      have HZb := Lib.hid (show ∀ p ∈ Z, p.2.length ≤ 1000 from fun p hp => by
        rw [← hZ] at hp
        obtain ⟨k, _, h2⟩ := zip_mem.1 hp
        exact HBl.out _ (List.mem_of_getElem? h2))
      obtain ⟨W3, hW3⟩ : ∃ W3, W3 = wr := ⟨_, rfl⟩
      subst hW3
      have hnb4 : nb ≤ 400 := HM4.out
      clear hZ bad HNo hlt
      go_wp2_with fail
      go_loopw [9, 10] (fun ov iv wr => ∃ (i : Nat) (vals : List Value), iv = .int .i64 (i : Int) ∧ i ≤ na ∧ SlI W3 ((a.take i).map fun l => cpF l Z []) vals ov wr) (fun _ iv _ => na - (intOf iv).toNat)
      case atStart => exact ⟨0, [], rfl, by omega, SlI.start _⟩
      case round =>
        obtain ⟨i, vals, rfl, hin, hS⟩ := hrel
        have HS := Lib.hid hS
        have HBr := Lib.hid (HB.out.trans (hS.bel.mono HB.out.size))
        clear hS
        by_cases hlt : i < na
        · obtain ⟨ada, ul, l, rfl, hba, hl, hcl0, hls⟩ := HVa.out.at_ hlt
          have HCl := Lib.hid (fun Y (h : Below w.heap.size w Y) => (h.cell (p := ada.add i) (by rw [add_block]; exact hba)).trans hcl0)
          have HL := Lib.hid hl
          have HHa := Lib.hid (fun z Y (h : Below w.heap.size w Y) => rhas_any ul l z Y ((hls.below h).mono h.size) (by have := HAl.out l (List.mem_of_getElem? hl); omega))
          obtain ⟨Al, cl, rfl, _⟩ := hls.form
          obtain ⟨Wr, hWr⟩ : ∃ Wr, Wr = wr := ⟨_, rfl⟩
          subst hWr
          clear hcl0 hba hl hls
          go_wp2_with fail
          go_loopw [11, 12] (fun rv kv wq => ∃ k : Nat, kv = .int .i64 (k : Int) ∧ k ≤ nb ∧ InW Wr.heap.size wq wq.heap.size rv (cpF l (Z.take k) []) ∧ Below Wr.heap.size Wr wq ∧ (rv = .slice none 0 0 ∨ cpF l (Z.take k) [] ≠ [])) (fun _ kv _ => nb - (intOf kv).toNat)
          case atStart => exact ⟨0, rfl, by omega, InW.nil _ _ _, Below.refl _ _, .inl rfl⟩
          case round =>
            obtain ⟨k, rfl, hkn, hO, hb, hne⟩ := hrel
            have HO := Lib.hid hO
            have HBw := Lib.hid hb
            have HNe := Lib.hid hne
            have HBk := Lib.hid (HBr.out.trans (hb.mono HBr.out.size))
            clear hO hb hne
            by_cases hkt : k < nb
            · obtain ⟨z, adm, hz, rfl, hbz, hcz0⟩ := HMi.out.at_ HNm.out hkt
              obtain ⟨adb, uq, bl, rfl, hbb, hbl', hcb0, hbs⟩ := HVb.out.at_ hkt
              have HCb := Lib.hid (fun Y (h : Below w.heap.size w Y) => (h.cell (p := adb.add k) (by rw [add_block]; exact hbb)).trans hcb0)
              have HZk := Lib.hid (show Z[k]? = some (z, bl) from by rw [← HZ.out]; exact List.getElem?_zip_eq_some.2 ⟨hz, hbl'⟩)
              have HNx := Lib.hid (cpF_next (l := l) (o := []) HZk.out)
              have HBb := Lib.hid (HBl.out bl (List.mem_of_getElem? hbl'))
              have hPl : (cpF l (Z.take k) []).length ≤ 400000 := by
                have h := cpF_len (l := l) (Z := Z.take k) (o := []) (fun p hp => HZb.out p (List.mem_of_mem_take hp))
                rw [List.length_take, List.length_nil] at h
                have : 1000 * min k Z.length ≤ 1000 * 400 := Nat.mul_le_mul_left _ (by omega)
                omega
              have HPl := Lib.hid hPl
              obtain ⟨Abl, cbl, rfl, _⟩ := hbs.form
              have HBs := Lib.hid (show InA w w.heap.size Abl bl from by obtain ⟨_, _, e, _, _, h⟩ := hbs; cases e; exact h)
              have hcl := HCl.out wr HBk.out
              have hcz := (HBk.out.cell (p := adm.add k) (by rw [add_block]; exact hbz)).trans hcz0
              have HHz := Lib.hid (HHa.out z wr.drew HBk.out.drew)
              obtain ⟨P, hP⟩ : ∃ P, cpF l (Z.take k) [] = P := ⟨_, rfl⟩
              rw [hP] at HO HNe HNx HPl
              clear hcz0 hbz hz hbb hbl' hcb0 hbs hPl hP
              go_wp2_with fail
              refine wp_region_tail 8 (by kernel_rfl) (by kernel_rfl) ?_
              simp only [List.take_succ_cons, List.take_zero, List.drop_succ_cons, List.drop_zero]
              iterate 8 ((with_reducible refine wpStill_step ?_); intro K hK; go_simp; (try (refine ite_neg_of (by simp [undef] <;> assumption) ?_)); (with_reducible refine hK _ ?_); clear hK K)
              (with_reducible refine wpStill_nil ?_)
              go_wp2_with fail
              (with_reducible refine HHz.out.mono ?_)
              rintro e YH ⟨rfl, hb⟩
              have hbH : Below wr.heap.size wr YH := (Below.refl _ _).drew.trans hb
              have HBH := Lib.hid (HBk.out.trans (hbH.mono HBk.out.size))
              have HBwH := Lib.hid (HBw.out.trans (hbH.mono HBw.out.size))
              have HOH := Lib.hid (HO.out.step hbH)
              clear hb hbH HHz hcl hcz
              by_cases hzl : z ∈ l
              case neg =>
                have HN := Lib.hid (show cpF l (Z.take (k + 1)) [] = P from by rw [HNx.out, if_neg hzl])
                rw [decide_eq_false hzl]
                clear hzl
                go_wp2_with fail
                go_roundw
                case rel => exact ⟨k + 1, by go_num, by omega, by rw [HN.out]; exact HOH.out, HBwH.out, by rw [HN.out]; exact HNe.out⟩
                case measure => simp [intOf]; omega
              case pos =>
                have HN := Lib.hid (show cpF l (Z.take (k + 1)) [] = putsF P bl from by rw [HNx.out, if_pos hzl])
                rw [decide_eq_true hzl]
                obtain ⟨lb, hlb⟩ : ∃ lb, bl.length = lb := ⟨_, rfl⟩
                have HLb := Lib.hid hlb
                rw [hlb] at HCb HBb
                have hlb9 : lb ≤ 1000 := HBb.out
                have hcb := HCb.out YH HBH.out
                obtain ⟨Wk, hWk⟩ : ∃ Wk, Wk = YH := ⟨_, rfl⟩
                subst hWk
                clear hzl hlb
                go_wp2_with fail
                clear hcb
                go_loopw [11, 13] (fun rv nv wq => ∃ n : Nat, nv = .int .i64 (n : Int) ∧ n ≤ lb ∧ InW Wr.heap.size wq wq.heap.size rv (putsF P (bl.take n)) ∧ Below Wk.heap.size Wk wq ∧ (rv = .slice none 0 0 ∨ putsF P (bl.take n) ≠ [])) (fun _ nv _ => lb - (intOf nv).toNat)
                case atStart => exact ⟨0, rfl, by omega, HOH.out, Below.refl _ _, HNe.out⟩
                case round =>
                  obtain ⟨n, rfl, hnn, hO, hb, hne⟩ := hrel
                  have HOn := Lib.hid hO
                  have HBn := Lib.hid hb
                  have HNn := Lib.hid hne
                  have HBnw := Lib.hid (HBH.out.trans (hb.mono HBH.out.size))
                  clear hO hb hne
                  have hcb := HCb.out wr HBnw.out
                  by_cases hnt : n < lb
                  · obtain ⟨y, ady, hy, rfl, hby, hcy0⟩ := HBs.out.at_ HLb.out hnt
                    have hcy := (HBnw.out.cell (p := ady.add n) (by rw [add_block]; exact hby)).trans hcy0
                    have HNy := Lib.hid (show putsF P (bl.take (n + 1)) = rputF y (putsF P (bl.take n)) from fold_next (f := fun o n => rputF n o) hy)
                    have hpl := putsF_len (bl.take n) P
                    rw [List.length_take] at hpl
                    have HPu := Lib.hid (rput_new _ (putsF P (bl.take n)) y wr Wr.heap.size (Nat.le_trans HBwH.out.size HBn.out.size) HOn.out (by have := HPl.out; omega))
                    rw [← HNy.out] at HPu
                    have HNz := Lib.hid (show putsF P (bl.take (n + 1)) ≠ [] from fun e => by
                      have : y ∈ putsF P (bl.take (n + 1)) := by rw [HNy.out]; exact mem_rputF.2 (.inl rfl)
                      rw [e] at this; cases this)
                    obtain ⟨Aq, cq, hq, _⟩ := HOn.out.form
                    obtain ⟨Q, hQ⟩ : ∃ Q, putsF P (bl.take n) = Q := ⟨_, rfl⟩
                    rw [hQ] at hq
                    subst hq
                    clear hcy0 hby hy hpl hQ
                    go_wp2_with fail
                    (with_reducible refine HPu.out.mono ?_)
                    rintro e w5 ⟨⟨rv, rfl, hr⟩, hb⟩
                    have HR5 := Lib.hid hr
                    have HB5 := Lib.hid (HBn.out.trans (hb.mono HBn.out.size))
                    clear hr hb hcy hcb
                    go_wp2_with fail
                    go_roundw
                    case rel => exact ⟨n + 1, by go_num, by omega, HR5.out, HB5.out, .inr HNz.out⟩
                    case measure => simp [intOf]; omega
                  · obtain rfl : lb = n := by omega
                    have HE := Lib.hid (show putsF P (bl.take lb) = cpF l (Z.take (k + 1)) [] from by rw [HN.out, show bl.take lb = bl from List.take_of_length_le (by have := HLb.out; omega)])
                    go_wp2_with fail
                    go_roundw
                    case rel => exact ⟨k + 1, by go_num, by omega, by rw [← HE.out]; exact HOn.out, HBwH.out.trans (HBn.out.mono HBwH.out.size), by rw [← HE.out]; exact HNn.out⟩
                    case measure => simp [intOf]; omega
            · obtain rfl : nb = k := by omega
              have hT : Z.take nb = Z := List.take_of_length_le HZl.out
              have HO2 := Lib.hid (show InW Wr.heap.size wr wr.heap.size u11 (cpF l Z []) from by have h := HO.out; rwa [hT] at h)
              have HNe2 := Lib.hid (show u11 = .slice none 0 0 ∨ cpF l Z [] ≠ [] from by have h := HNe.out; rwa [hT] at h)
              have HSw := Lib.hid (HS.out.step HBw.out)
              have HNx := Lib.hid (mapU_next (f := fun l => cpF l Z []) HL.out)
              have HRp := Lib.hid (show ∀ g, u11.ownBlock = some g → u9.ownBlock ≠ some g from fun g e e2 => by have h1 := HO2.out.own g e; have h2 := (HS.out.lt e2).2; omega)
              have HRq := Lib.hid (fun g (e : u11.ownBlock = some g) => show g < wr.heap.size from by
                rcases HNe2.out with h | h
                · rw [h] at e; cases e
                · exact HO2.out.sl.ownLt h e)
              have HSl := Lib.hid HO2.out.sl
              have HLn := Lib.hid (show ((a.take i).map fun l => cpF l Z []).length ≤ 100000 from by rw [List.length_map, List.length_take]; omega)
              obtain ⟨Ar, cr, hq, _⟩ := HO2.out.sl.form
              obtain ⟨R, hR⟩ : ∃ R, cpF l Z [] = R := ⟨_, rfl⟩
              rw [hR] at HSl HNx hq
              subst hq
              clear HO hR HO2 HNe HNe2 hT
              go_wp2_with (at_builtin; refine wpList_app_sl rfl _ _ rfl rfl (HSw.out.step (below_new _)) wr.heap.size rfl (World.alloc_heap_new _ _) rfl (HSl.out.step (below_new _)) (fun g e => ⟨HRp.out g e, Nat.lt_of_lt_of_le (HRq.out g e) (by simp)⟩) HLn.out ?_; intro v6 w6 hS6 hg6 hob6; have HS6 := Lib.hid hS6; clear hS6 hg6 hob6)
              go_roundw
              case rel => exact ⟨i + 1, _, by go_num, by omega, by rw [HNx.out]; exact HS6.out⟩
              case measure => simp [intOf]; omega
        · obtain rfl : na = i := by omega
          have HF := Lib.hid (show VsSl wr wr.heap.size u9 (a.map fun l => cpF l (M.zip b) []) from by
            have h := HS.out.sl
            rw [List.take_of_length_le (by have := HNa.out; omega)] at h
            rw [HZ.out]
            exact h)
          obtain ⟨A9, c9, hq⟩ := HF.out.form
          go_wp2_with fail
          go_ret2
          exact .inl ⟨HOk.out, _, cp_rows, ⟨⟨_, rfl, HF.out⟩, HBr.out⟩⟩
end Go.Proofs.YtplpogonkfnafaaGreat
