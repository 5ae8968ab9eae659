/- The reference's Turn. -/
import Derived.Test.YtplpogonkfnafaaGreatNmUd
namespace Go.Proofs.YtplpogonkfnafaaGreat
open Go.RowKit Go.Nm

def RTnOk (a : List (List Int)) (fr to : List Int) : Prop := fr.length ≤ 400 ∧ to.length ≤ 400 ∧ Nms fr ∧ Nms to ∧ a.length = fr.length ∧ a.all (rwL to) = true
theorem side_iff {L : List Int} : Side L ↔ L.length ≤ 400 ∧ Nms L := by
  constructor
  · rintro (rfl | h)
    · exact ⟨by simp, List.Pairwise.nil, fun x hx => nomatch hx⟩
    · exact ⟨h.2.1, h.2.2⟩
  · rintro ⟨h1, h2⟩
    cases L with
    | nil => exact .inl rfl
    | cons x L => exact .inr ⟨by simp, h1, h2⟩
theorem rwL_gL {M l : List Int} (hM : Nms M) : rwL M l = gL M l := by
  unfold rwL gL
  rw [decide_eq_decide]
  constructor
  · rintro ⟨h1, h2⟩; exact ⟨h1.1, h2⟩
  · rintro ⟨h1, h2⟩; exact ⟨⟨h1, fun x hx => hM.2 x (h2 x hx)⟩, h2⟩
theorem all_rw {M : List Int} (hM : Nms M) (a : List (List Int)) : a.all (rwL M) = a.all (gL M) := by
  rw [show rwL M = gL M from funext fun l => rwL_gL hM]
theorem tn_iff {a : List (List Int)} {fr to : List Int} : RTnOk a fr to ↔ TnOk a fr to := by
  unfold RTnOk TnOk
  rw [side_iff, side_iff]
  constructor
  · rintro ⟨h1, h2, h3, h4, h5, h6⟩; exact ⟨⟨h1, h3⟩, ⟨h2, h4⟩, h5, by rw [← all_rw h4]; exact h6⟩
  · rintro ⟨⟨h1, h3⟩, ⟨h2, h4⟩, h5, h6⟩; exact ⟨h1, h2, h3, h4, h5, by rw [all_rw h4]; exact h6⟩
theorem tr_take {y : Int} {Z : List (List Int × Int)} {n : Nat} (h : Z.length ≤ n) : tr y (Z.take n) = tr y Z := by rw [List.take_of_length_le h]
set_option maxRecDepth 100000 in
set_option maxHeartbeats 16000000 in
theorem rTurn_any (va vf vt : Value) (a : List (List Int)) (fr to : List Int) (w : World) (hva : VsSl w w.heap.size va a) (hvf : InSl w w.heap.size vf fr) (hvt : InSl w w.heap.size vt to) (hal : a.length ≤ 1000) (hFl : fr.length ≤ 1000) (hTl : to.length ≤ 1000) (ha : ∀ l ∈ a, l.length ≤ 1000) :
    Calls Tryz.prog 12 #[va, vf, vt] w (TnPost a fr to w) := by
  have HR1 := Lib.hid (rrising_any vf fr w hvf (by omega))
  have HR2 := Lib.hid (fun Y (h : Below w.heap.size w Y) => rrising_any vt to Y (hvt.step h) (by omega))
  have HRo := Lib.hid (fun Y (h : Below w.heap.size w Y) => rrows_any va vt a fr.length to Y ((hva.below h).mono h.size) (hvt.step h) (by omega) (by omega) (by omega) (fun l hl => Nat.le_trans (ha l hl) (by omega)))
  have HVa := Lib.hid hva
  have HAl := Lib.hid ha
  obtain ⟨Aa, ca, rfl⟩ := hva.form
  obtain ⟨Af, cf, rfl, _⟩ := hvf.form
  obtain ⟨At, ct, rfl, _⟩ := hvt.form
  have HFi := Lib.hid (show InA w w.heap.size Af fr from by obtain ⟨_, _, e, _, _, h⟩ := hvf; cases e; exact h)
  have HTi := Lib.hid (show InA w w.heap.size At to from by obtain ⟨_, _, e, _, _, h⟩ := hvt; cases e; exact h)
  obtain ⟨na, hna⟩ : ∃ na, a.length = na := ⟨_, rfl⟩
  obtain ⟨nf, hnf⟩ : ∃ nf, fr.length = nf := ⟨_, rfl⟩
  obtain ⟨nt, hnt⟩ : ∃ nt, to.length = nt := ⟨_, rfl⟩
  have HNa := Lib.hid hna
  have HNf := Lib.hid hnf
  have HNt := Lib.hid hnt
  have HNo := Lib.hid (@tn_iff a fr to)
  rw [hna] at HVa HRo hal ⊢
  rw [hnf] at HR1 HRo hFl ⊢
  rw [hnt] at HR2 HRo hTl ⊢
  clear hva hvf hvt ha hna hnf hnt
  have bad : ∀ {P : Prop} {w' : World}, (P → False) → (RTnOk a fr to → P) → Below w.heap.size w w' → TnPost a fr to w (.returned (.tuple #[.slice none 0 0, .int .i64 1])) w' := fun h1 h2 hb => .inr ⟨fun h => h1 (h2 (HNo.out.2 h)), ⟨⟨_, rfl, VsSl.none _ _⟩, hb⟩⟩
  by_cases h1 : 400 < nf
  · have q1 : (400 : Int) < (nf : Int) := by omega
    have HH := Lib.hid h1
    clear h1
    go_enter Tryz.func12, Tryz.ntmps12
    go_wp2_with fail
    go_ret2
    exact bad (P := nf ≤ 400) (fun h => by have := HH.out; omega) (fun h => by have := h.1; have := HNf.out; omega) (Below.refl _ _)
  have q1 : ¬ (400 : Int) < (nf : Int) := by omega
  have HF4 := Lib.hid (show nf ≤ 400 by omega)
  clear h1
  by_cases h2 : 400 < nt
  · have q2 : (400 : Int) < (nt : Int) := by omega
    have HH := Lib.hid h2
    clear h2
    go_enter Tryz.func12, Tryz.ntmps12
    go_wp2_with fail
    go_ret2
    exact bad (P := nt ≤ 400) (fun h => by have := HH.out; omega) (fun h => by have := h.2.1; have := HNt.out; omega) (Below.refl _ _)
  have q2 : ¬ (400 : Int) < (nt : Int) := by omega
  have HT4 := Lib.hid (show nt ≤ 400 by omega)
  clear h2
  go_enter Tryz.func12, Tryz.ntmps12
  go_wp2_with fail
  (with_reducible refine HR1.out.mono ?_)
  rintro e w1 ⟨rfl, hb⟩
  have HB1 := Lib.hid hb
  have HE1 := Lib.hid (HR2.out w1 hb)
  clear hb HR1 HR2
  by_cases hS : Nms fr
  case neg =>
    have HH := Lib.hid hS
    rw [decide_eq_false hS]
    clear hS
    go_wp2_with fail
    go_ret2
    exact bad HH.out (fun h => h.2.2.1) HB1.out
  case pos =>
  have HSf := Lib.hid hS
  rw [decide_eq_true hS]
  clear hS
  go_wp2_with fail
  (with_reducible refine HE1.out.mono ?_)
  rintro e w2 ⟨rfl, hb⟩
  have HB2 := Lib.hid (HB1.out.trans (hb.mono HB1.out.size))
  have HL2 := Lib.hid (HRo.out w2 HB2.out)
  clear hb HE1 HRo
  by_cases hS : Nms to
  case neg =>
    have HH := Lib.hid hS
    rw [decide_eq_false hS]
    clear hS
    go_wp2_with fail
    go_ret2
    exact bad HH.out (fun h => h.2.2.2.1) HB2.out
  case pos =>
  have HSt := Lib.hid hS
  rw [decide_eq_true hS]
  clear hS
  go_wp2_with fail
  (with_reducible refine HL2.out.mono ?_)
  rintro e w3 ⟨rfl, hb⟩
  have HB3 := Lib.hid (HB2.out.trans (hb.mono HB2.out.size))
  clear hb HL2
  cases hR : (decide (na = nf ∧ nf ≤ 400) && a.all (rwL to)) with
  | false =>
    have HH := Lib.hid hR
    clear hR
    go_wp2_with fail
    go_ret2
    exact bad (P := (decide (na = nf ∧ nf ≤ 400) && a.all (rwL to)) = true) (fun h => by rw [HH.out] at h; cases h) (fun h => by
      rw [Bool.and_eq_true]
      exact ⟨decide_eq_true ⟨by have := h.2.2.2.2.1; have := HNa.out; have := HNf.out; omega, HF4.out⟩, h.2.2.2.2.2⟩) HB3.out
  | true =>
  rw [Bool.and_eq_true] at hR
  obtain ⟨hR1, hR2⟩ := hR
  have hnaf := (of_decide_eq_true hR1).1
  subst hnaf
  have HOk := Lib.hid (HNo.out.1 ⟨by have := HNf.out; have := HF4.out; omega, by have := HNt.out; have := HT4.out; omega, HSf.out, HSt.out, by have := HNa.out; have := HNf.out; omega, hR2⟩)
  clear hR1 hR2 bad HNo
  obtain ⟨Z, hZ⟩ : ∃ Z, a.zip fr = Z := ⟨_, rfl⟩
  have HZ := Lib.hid hZ
  have HZl := Lib.hid (show Z.length ≤ na from by rw [← hZ, List.length_zip]; have := HNa.out; omega)
  obtain ⟨W3, hW3⟩ : ∃ W3, W3 = w3 := ⟨_, rfl⟩
  subst hW3
  clear hZ
  go_wp2_with fail
  go_loopw [8, 9] (fun ov iv wr => ∃ (i : Nat) (vals : List Value), iv = .int .i64 (i : Int) ∧ i ≤ nt ∧ SlI W3 ((to.take i).map fun y => tr y Z) vals ov wr) (fun _ iv _ => nt - (intOf iv).toNat)
  case atStart => exact ⟨0, [], rfl, by omega, SlI.start _⟩
  case round =>
    obtain ⟨i, vals, rfl, hin, hS⟩ := hrel
    have HS := Lib.hid hS
    have HBr := Lib.hid (HB3.out.trans (hS.bel.mono HB3.out.size))
    clear hS
    by_cases hlt : i < nt
    · obtain ⟨y, ady, hy, rfl, hby, hcy0⟩ := HTi.out.at_ HNt.out hlt
      have HCy := Lib.hid (fun Y (h : Below w.heap.size w Y) => (h.cell (p := ady.add i) (by rw [add_block]; exact hby)).trans hcy0)
      have HY := Lib.hid hy
      obtain ⟨Wr, hWr⟩ : ∃ Wr, Wr = wr := ⟨_, rfl⟩
      subst hWr
      clear hcy0 hby hy
      go_wp2_with fail
      go_loopw [10, 11] (fun rv kv wq => ∃ k : Nat, kv = .int .i64 (k : Int) ∧ k ≤ na ∧ OwN Wr rv (tr y (Z.take k)) wq) (fun _ kv _ => na - (intOf kv).toNat)
      case atStart => exact ⟨0, rfl, by omega, by simpa [tr] using OwN.start Wr⟩
      case round =>
        obtain ⟨k, rfl, hkn, hO⟩ := hrel
        have HO := Lib.hid hO
        have HBk := Lib.hid (HBr.out.trans (hO.bel.mono HBr.out.size))
        clear hO
        by_cases hkt : k < na
        · obtain ⟨ada, ul, l, rfl, hba, hl, hcl0, hls⟩ := HVa.out.at_ hkt
          obtain ⟨x, adx, hx, rfl, hbx, hcx0⟩ := HFi.out.at_ HNf.out hkt
          have HCl := Lib.hid (fun Y (h : Below w.heap.size w Y) => (h.cell (p := ada.add k) (by rw [add_block]; exact hba)).trans hcl0)
          have HCx := Lib.hid (fun Y (h : Below w.heap.size w Y) => (h.cell (p := adx.add k) (by rw [add_block]; exact hbx)).trans hcx0)
          have HLs := Lib.hid hls
          have HHa := Lib.hid (rhas_any ul l y wr.drew ((hls.below HBk.out.drew).mono HBk.out.drew.size) (by have := HAl.out l (List.mem_of_getElem? hl); omega))
          have HTr := Lib.hid (tr_next (y := y) (show Z[k]? = some (l, x) from by rw [← HZ.out]; exact zip_at hl hx))
          obtain ⟨Al, cl, rfl, _⟩ := hls.form
          have hcl := HCl.out wr HBk.out
          have hcy := HCy.out wr HBk.out
          clear hcl0 hcx0 hba hbx hl hx hls
          go_wp2_with fail
          refine wp_region_tail 8 (by kernel_rfl) (by kernel_rfl) ?_
          simp only [List.take_succ_cons, List.take_zero, List.drop_succ_cons, List.drop_zero]
          iterate 8 ((with_reducible refine wpStill_step ?_); intro K hK; go_simp; (try (refine ite_neg_of (by simp [undef] <;> assumption) ?_)); (with_reducible refine hK _ ?_); clear hK K)
          (with_reducible refine wpStill_nil ?_)
          go_wp2_with fail
          (with_reducible refine HHa.out.mono ?_)
          rintro e YH ⟨rfl, hb⟩
          have hbH : Below wr.heap.size wr YH := (Below.refl _ _).drew.trans hb
          have HBH := Lib.hid (HBk.out.trans (hbH.mono HBk.out.size))
          have HOH := Lib.hid (HO.out.step hbH)
          clear hb hbH HHa hcl hcy
          by_cases hyl : y ∈ l
          case neg =>
            have HN := Lib.hid (show tr y (Z.take (k + 1)) = tr y (Z.take k) from by rw [HTr.out, if_neg hyl, List.append_nil])
            rw [decide_eq_false hyl]
            clear hyl
            go_wp2_with fail
            go_roundw
            case rel => exact ⟨k + 1, by go_num, by omega, by rw [HN.out]; exact HOH.out⟩
            case measure => simp [intOf]; omega
          case pos =>
            have HN := Lib.hid (show tr y (Z.take (k + 1)) = tr y (Z.take k) ++ [x] from by rw [HTr.out, if_pos hyl])
            rw [decide_eq_true hyl]
            have hcx := HCx.out YH HBH.out
            have HLn := Lib.hid (show (tr y (Z.take k)).length ≤ 1000 from by have := tr_len y (Z.take k); rw [List.length_take] at this; omega)
            have HOb := Lib.hid (HOH.out.step (below_new (.cells #[.int .i64 x] 3)))
            have HBx := Lib.hid (World.alloc_heap_new YH (.cells #[.int .i64 x] 3))
            clear hyl
            go_wp2_with (at_builtin; refine wpList_appO rfl _ _ rfl HOb.out rfl rfl (box_sl HBx.out) (by have := HLn.out; simp only [List.length_singleton]; omega) ?_; intro v' w6 h1 h2 h3; have HO6 := Lib.hid h1; clear h1 h2 h3)
            go_roundw
            case rel => exact ⟨k + 1, by go_num, by omega, by rw [HN.out]; exact HO6.out⟩
            case measure => simp [intOf]; omega
        · obtain rfl : na = k := by omega
          have HRs := Lib.hid (show OwN Wr u10 (tr y Z) wr from by have h := HO.out; rwa [tr_take HZl.out] at h)
          have HSw := Lib.hid (HS.out.step HRs.out.bel)
          have HNx := Lib.hid (mapM_next (f := fun y => tr y Z) HY.out)
          have HRp := Lib.hid (show ∀ g, u10.ownBlock = some g → u8.ownBlock ≠ some g from fun g e e2 => by have h1 := (HRs.out.own.lt g e).1; have h2 := (HS.out.lt e2).2; omega)
          have HRq := Lib.hid (fun g (e : u10.ownBlock = some g) => (HRs.out.own.lt g e).2)
          have HSl := Lib.hid HRs.out.sl
          have HLn := Lib.hid (show ((to.take i).map fun y => tr y Z).length ≤ 100000 from by rw [List.length_map, List.length_take]; omega)
          obtain ⟨Ar, cr, hq, _⟩ := HRs.out.sl.form
          obtain ⟨R, hR⟩ : ∃ R, tr y Z = R := ⟨_, rfl⟩
          rw [hR] at HSl HNx hq
          subst hq
          clear HO hR HRs
          go_wp2_with (at_builtin; refine wpList_app_sl rfl _ _ rfl rfl (HSw.out.step (below_new _)) wr.heap.size rfl (World.alloc_heap_new _ _) rfl (HSl.out.step (below_new _)) (fun g e => ⟨HRp.out g e, Nat.lt_of_lt_of_le (HRq.out g e) (by simp)⟩) HLn.out ?_; intro v6 w6 hS6 hg6 hob6; have HS6 := Lib.hid hS6; clear hS6 hg6 hob6)
          go_roundw
          case rel => exact ⟨i + 1, _, by go_num, by omega, by rw [HNx.out]; exact HS6.out⟩
          case measure => simp [intOf]; omega
    · obtain rfl : nt = i := by omega
      have HF := Lib.hid (show VsSl wr wr.heap.size u8 (turnF a fr to) from by
        have h := HS.out.sl
        rw [List.take_of_length_le (by have := HNt.out; omega)] at h
        unfold turnF
        rw [HZ.out]
        exact h)
      obtain ⟨A8, c8, hq⟩ := HF.out.form
      go_wp2_with fail
      go_ret2
      exact .inl ⟨HOk.out, ⟨⟨_, rfl, HF.out⟩, HBr.out⟩⟩
end Go.Proofs.YtplpogonkfnafaaGreat
