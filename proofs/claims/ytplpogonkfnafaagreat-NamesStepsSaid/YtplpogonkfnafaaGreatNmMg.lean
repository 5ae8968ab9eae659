
/- The reference: forth, back. -/
import Derived.Test.YtplpogonkfnafaaGreatNmMf
namespace Go.Proofs.YtplpogonkfnafaaGreat
open Go.RowKit Go.Nm

theorem fold_next {α β : Type} {f : β → α → β} {o : β} {l : List α} {i : Nat} {x : α} (h : l[i]? = some x) : (l.take (i + 1)).foldl f o = f ((l.take i).foldl f o) x := by
  rw [show l.take (i + 1) = l.take i ++ [x] from by rw [List.take_add_one, h]; rfl, List.foldl_append]; rfl
theorem forthG_len {x : Ch} {l : List Int} {o : List Int} {K : Nat} (hk : ∀ z, (goesF x z).length ≤ K) : (l.foldl (fun o z => putsF o (goesF x z)) o).length ≤ o.length + K * l.length := by
  induction l generalizing o with
  | nil => simp
  | cons y l ih =>
    rw [List.foldl_cons]
    have h1 := ih (o := putsF o (goesF x y))
    have h2 := putsF_len (goesF x y) o
    have h3 := hk y
    rw [List.length_cons, Nat.mul_succ]
    omega
theorem goesF_len {x : Ch} {K : Nat} (h1 : x.to.length ≤ K) (h2 : 1 ≤ K) (z : Int) : (goesF x z).length ≤ K := by
  unfold goesF
  split
  · exact h1
  · exact h2
set_option maxRecDepth 100000 in
set_option maxHeartbeats 8000000 in
theorem rforth_any (vf vt u : Value) (x : Ch) (l : List Int) (w : World) (hf : InSl w w.heap.size vf x.fr) (ht : InSl w w.heap.size vt x.to) (hu : InSl w w.heap.size u l) (hF : x.fr.length ≤ 1000) (hT : x.to.length ≤ 1000) (hl : l.length ≤ 400) :
    Calls Tryz.prog 51 #[.agg #[.int .i64 x.yr, vf, vt], u] w fun e w' => (∃ r, e = .returned r ∧ InSl w' w'.heap.size r (rforthF x l)) ∧ Below w.heap.size w w' := by
  obtain ⟨Af, cf, rfl, _⟩ := hf.form
  obtain ⟨At, ct, rfl, _⟩ := ht.form
  obtain ⟨Au, cu, rfl, _⟩ := hu.form
  obtain ⟨W0, hW0⟩ : ∃ W0, w.alloc (.cells #[.int .i64 x.yr, .slice Af x.fr.length cf, .slice At x.to.length ct] 52) = W0 := ⟨_, rfl⟩
  have hb0 : Below w.heap.size w W0 := by rw [← hW0]; exact below_new _
  have HB0 := Lib.hid hb0
  have HU := Lib.hid (hu.step hb0)
  have HBx := Lib.hid (show ∀ Y, Below W0.heap.size W0 Y → Y.cell? ⟨w.heap.size, 0, none⟩ = some (.int .i64 x.yr) ∧ Y.cell? ⟨w.heap.size, 1, none⟩ = some (.slice Af x.fr.length cf) ∧ Y.cell? ⟨w.heap.size, 2, none⟩ = some (.slice At x.to.length ct) from fun Y hY => by
    have h := World.alloc_heap_new w (.cells #[.int .i64 x.yr, .slice Af x.fr.length cf, .slice At x.to.length ct] 52)
    rw [hW0] at h
    exact cells_three ((hY.block _ (Array.getElem?_eq_some_iff.1 h).1).trans h))
  have HGo := Lib.hid (fun z Y (h : Below W0.heap.size W0 Y) => rgoes_any _ _ x z Y ((hf.step hb0).step h) ((ht.step hb0).step h) (by omega))
  have HGl := Lib.hid (goesF_len hT (by omega))
  have HW0 := Lib.hid hW0
  obtain ⟨R, hR⟩ : ∃ R, rforthF x l = R := ⟨_, rfl⟩
  have HR := Lib.hid hR
  rw [hR]
  obtain ⟨n, hn⟩ : ∃ n, l.length = n := ⟨_, rfl⟩
  have HN := Lib.hid hn
  rw [hn] at HU hl ⊢
  clear hf ht hu hb0 hW0 hR hn
  obtain ⟨d0, d1, d2⟩ := HBx.out W0 (Below.refl _ _)
  go_enter Tryz.func51, Tryz.ntmps51
  go_wp2_with fail
  rw [HW0.out]
  go_loopw [5, 6] (fun ov iv wr => ∃ i : Nat, iv = .int .i64 (i : Int) ∧ i ≤ n ∧ InSl wr wr.heap.size ov ((l.take i).foldl (fun o z => putsF o (goesF x z)) []) ∧ Below W0.heap.size W0 wr) (fun _ iv _ => n - (intOf iv).toNat)
  case atStart => exact ⟨0, rfl, by omega, InSl.nil _ _, Below.refl _ _⟩
  case round =>
    obtain ⟨i, rfl, hin, hO, hb⟩ := hrel
    have HO := Lib.hid hO
    have HB := Lib.hid hb
    clear d0 d1 d2 hO hb
    obtain ⟨d0, d1, d2⟩ := HBx.out wr HB.out
    by_cases hlt : i < n
    · obtain ⟨z, ad, hz, rfl, hbd, hcz⟩ := ((show InA W0 W0.heap.size Au l from by obtain ⟨_, _, e, _, _, h⟩ := HU.out; cases e; exact h).below HB.out).at_ HN.out hlt
      have HNx := Lib.hid (fold_next (f := fun o z => putsF o (goesF x z)) (o := []) hz)
      have hOl := forthG_len (x := x) (l := l.take i) (o := []) HGl.out
      rw [List.length_take, List.length_nil] at hOl
      have hOl2 : ((l.take i).foldl (fun o z => putsF o (goesF x z)) []).length ≤ 400000 := by
        have : 1000 * min i l.length ≤ 1000 * 400 := Nat.mul_le_mul_left _ (by have := HN.out; omega)
        omega
      have HOl := Lib.hid hOl2
      have HG := Lib.hid (HGo.out z wr.drew HB.out.drew)
      have HGz := Lib.hid (HGl.out z)
      obtain ⟨O, hOe⟩ : ∃ O, (l.take i).foldl (fun o z => putsF o (goesF x z)) [] = O := ⟨_, rfl⟩
      obtain ⟨G, hGe⟩ : ∃ G, goesF x z = G := ⟨_, rfl⟩
      rw [hOe, hGe] at HNx
      rw [hOe] at HO HOl
      rw [hGe] at HG HGz
      clear hz hbd hOl hOl2 hOe hGe
      go_wp2_with fail
      refine wp_region_tail 5 (by kernel_rfl) (by kernel_rfl) ?_
      simp only [List.take_succ_cons, List.take_zero, List.drop_succ_cons, List.drop_zero]
      iterate 5 ((with_reducible refine wpStill_step ?_); intro K hK; go_simp; (try (refine ite_neg_of (by simp [undef] <;> assumption) ?_)); (with_reducible refine hK _ ?_); clear hK K)
      (with_reducible refine wpStill_nil ?_)
      go_wp2_with fail
      (with_reducible refine HG.out.mono ?_)
      rintro e W2 ⟨⟨lv, rfl, hlv, _⟩, hb⟩
      have HB2 := Lib.hid (show Below wr.heap.size wr W2 from (Below.refl _ _).drew.trans hb)
      have HL := Lib.hid hlv
      have HO2 := Lib.hid (HO.out.step HB2.out)
      have HB3 := Lib.hid (HB.out.trans (HB2.out.mono HB.out.size))
      obtain ⟨Al, cl, rfl, _⟩ := hlv.form
      obtain ⟨m, hm⟩ : ∃ m, G.length = m := ⟨_, rfl⟩
      have HM := Lib.hid hm
      rw [hm] at HL HGz ⊢
      have hm1 : m ≤ 1000 := HGz.out
      clear d0 d1 d2 hb hlv hcz hm HG
      go_wp2_with fail
      go_loopw [5, 8] (fun ov kv wq => ∃ k : Nat, kv = .int .i64 (k : Int) ∧ k ≤ m ∧ InSl wq wq.heap.size ov (putsF O (G.take k)) ∧ Below W2.heap.size W2 wq) (fun _ kv _ => m - (intOf kv).toNat)
      case atStart => exact ⟨0, rfl, by omega, HO2.out, Below.refl _ _⟩
      case round =>
        obtain ⟨k, rfl, hkm, hO, hb⟩ := hrel
        have HOk := Lib.hid hO
        have HBk := Lib.hid hb
        have HBk3 := Lib.hid (HB3.out.trans (hb.mono HB3.out.size))
        clear hO hb
        by_cases hkt : k < m
        · obtain ⟨y, adl, hy, rfl, _, hcy⟩ := ((show InA W2 W2.heap.size Al G from by obtain ⟨_, _, e, _, _, h⟩ := HL.out; cases e; exact h).below HBk.out).at_ HM.out hkt
          have HNy := Lib.hid (show putsF O (G.take (k + 1)) = rputF y (putsF O (G.take k)) from fold_next (f := fun o n => rputF n o) hy)
          have hpl := putsF_len (G.take k) O
          rw [List.length_take] at hpl
          have HPu := Lib.hid (rput_any _ (putsF O (G.take k)) y wr HOk.out (by have := HOl.out; omega))
          rw [← HNy.out] at HPu
          clear hy hpl
          go_wp2_with fail
          (with_reducible refine HPu.out.mono ?_)
          rintro e W3 ⟨⟨rv, rfl, hr⟩, hb⟩
          have HR3 := Lib.hid hr
          have HB4 := Lib.hid (HBk.out.trans (hb.mono HBk.out.size))
          clear hr hb hcy
          go_wp2_with fail
          go_roundw
          case rel => exact ⟨k + 1, by go_num, by omega, HR3.out, HB4.out⟩
          case measure => simp [intOf]; omega
        · have HE := Lib.hid (show G.take k = G from List.take_of_length_le (by have := HM.out; omega))
          go_wp2_with fail
          go_roundw
          case rel => exact ⟨i + 1, by go_num, by omega, by rw [HNx.out, ← HE.out]; have h := HOk.out; rw [HE.out] at h ⊢; exact h, HBk3.out⟩
          case measure => simp [intOf]; omega
    · have HE := Lib.hid (show (l.take i).foldl (fun o z => putsF o (goesF x z)) [] = R from by rw [List.take_of_length_le (by have := HN.out; omega)]; exact HR.out)
      go_wp2_with fail
      go_ret
      exact ⟨⟨_, rfl, by rw [← HE.out]; exact HO.out⟩, HB0.out.trans (HB.out.mono HB0.out.size)⟩
theorem backS_len {x : Ch} {l : List Int} {z : Int} {o : List Int} : (backS x l o z).length ≤ o.length + (goesF x z).length := by
  unfold backS
  generalize goesF x z = m
  induction m generalizing o with
  | nil => simp
  | cons a m ih =>
    rw [List.foldl_cons, List.length_cons]
    by_cases ha : a ∈ l
    · rw [if_pos ha]
      have := ih (o := rputF z o)
      have := rputF_len z o
      omega
    · rw [if_neg ha]
      have := ih (o := o)
      omega
theorem backG_len {x : Ch} {l : List Int} {K : Nat} (hk : ∀ z, (goesF x z).length ≤ K) {A o : List Int} : (A.foldl (backS x l) o).length ≤ o.length + K * A.length := by
  induction A generalizing o with
  | nil => simp
  | cons y A ih =>
    rw [List.foldl_cons]
    have h1 := ih (o := backS x l o y)
    have h2 := backS_len (x := x) (l := l) (z := y) (o := o)
    have h3 := hk y
    rw [List.length_cons, Nat.mul_succ]
    omega
theorem fold_len {l : List Int} {z : Int} {m o : List Int} : (m.foldl (fun o m => if m ∈ l then rputF z o else o) o).length ≤ o.length + m.length := by
  induction m generalizing o with
  | nil => simp
  | cons a m ih =>
    rw [List.foldl_cons, List.length_cons]
    by_cases ha : a ∈ l
    · rw [if_pos ha]
      have := ih (o := rputF z o)
      have := rputF_len z o
      omega
    · rw [if_neg ha]
      have := ih (o := o)
      omega
set_option maxRecDepth 100000 in
set_option maxHeartbeats 8000000 in
theorem rback_any (vf vt va u : Value) (x : Ch) (A l : List Int) (w : World) (hf : InSl w w.heap.size vf x.fr) (ht : InSl w w.heap.size vt x.to) (ha : InSl w w.heap.size va A) (hu : InSl w w.heap.size u l) (hF : x.fr.length ≤ 1000) (hT : x.to.length ≤ 1000) (hA : A.length ≤ 400) (hl : l.length ≤ 400) :
    Calls Tryz.prog 52 #[.agg #[.int .i64 x.yr, vf, vt], va, u] w fun e w' => (∃ r, e = .returned r ∧ InSl w' w'.heap.size r (rbackF x A l)) ∧ Below w.heap.size w w' := by
  obtain ⟨Af, cf, rfl, _⟩ := hf.form
  obtain ⟨At, ct, rfl, _⟩ := ht.form
  obtain ⟨Aa, ca, rfl, _⟩ := ha.form
  obtain ⟨Au, cu, rfl, _⟩ := hu.form
  obtain ⟨W0, hW0⟩ : ∃ W0, w.alloc (.cells #[.int .i64 x.yr, .slice Af x.fr.length cf, .slice At x.to.length ct] 52) = W0 := ⟨_, rfl⟩
  have hb0 : Below w.heap.size w W0 := by rw [← hW0]; exact below_new _
  have HB0 := Lib.hid hb0
  have HV := Lib.hid (ha.step hb0)
  have HH := Lib.hid (fun z Y (h : Below W0.heap.size W0 Y) => rhas_any _ l z Y ((hu.step hb0).step h) (by omega))
  have HBx := Lib.hid (show ∀ Y, Below W0.heap.size W0 Y → Y.cell? ⟨w.heap.size, 0, none⟩ = some (.int .i64 x.yr) ∧ Y.cell? ⟨w.heap.size, 1, none⟩ = some (.slice Af x.fr.length cf) ∧ Y.cell? ⟨w.heap.size, 2, none⟩ = some (.slice At x.to.length ct) from fun Y hY => by
    have h := World.alloc_heap_new w (.cells #[.int .i64 x.yr, .slice Af x.fr.length cf, .slice At x.to.length ct] 52)
    rw [hW0] at h
    exact cells_three ((hY.block _ (Array.getElem?_eq_some_iff.1 h).1).trans h))
  have HGo := Lib.hid (fun z Y (h : Below W0.heap.size W0 Y) => rgoes_any _ _ x z Y ((hf.step hb0).step h) ((ht.step hb0).step h) (by omega))
  have HGl := Lib.hid (goesF_len hT (by omega))
  have HW0 := Lib.hid hW0
  obtain ⟨R, hR⟩ : ∃ R, rbackF x A l = R := ⟨_, rfl⟩
  have HR := Lib.hid hR
  rw [hR]
  obtain ⟨n, hn⟩ : ∃ n, A.length = n := ⟨_, rfl⟩
  have HN := Lib.hid hn
  rw [hn] at HV hA ⊢
  clear hf ht hu ha hb0 hW0 hR hn
  obtain ⟨d0, d1, d2⟩ := HBx.out W0 (Below.refl _ _)
  go_enter Tryz.func52, Tryz.ntmps52
  go_wp2_with fail
  rw [HW0.out]
  go_loopw [7, 8] (fun ov iv wr => ∃ i : Nat, iv = .int .i64 (i : Int) ∧ i ≤ n ∧ InSl wr wr.heap.size ov ((A.take i).foldl (backS x l) []) ∧ Below W0.heap.size W0 wr) (fun _ iv _ => n - (intOf iv).toNat)
  case atStart => exact ⟨0, rfl, by omega, InSl.nil _ _, Below.refl _ _⟩
  case round =>
    obtain ⟨i, rfl, hin, hO, hb⟩ := hrel
    have HO := Lib.hid hO
    have HB := Lib.hid hb
    clear d0 d1 d2 hO hb
    obtain ⟨d0, d1, d2⟩ := HBx.out wr HB.out
    by_cases hlt : i < n
    · obtain ⟨z, ad, hz, rfl, hbd, hcz⟩ := ((show InA W0 W0.heap.size Aa A from by obtain ⟨_, _, e, _, _, h⟩ := HV.out; cases e; exact h).below HB.out).at_ HN.out hlt
      have HNx := Lib.hid (fold_next (f := backS x l) (o := []) hz)
      have hOl := backG_len (x := x) (l := l) (A := A.take i) (o := []) HGl.out
      rw [List.length_take, List.length_nil] at hOl
      have hOl2 : ((A.take i).foldl (backS x l) []).length ≤ 400000 := by
        have : 1000 * min i A.length ≤ 1000 * 400 := Nat.mul_le_mul_left _ (by have := HN.out; omega)
        omega
      have HOl := Lib.hid hOl2
      have HG := Lib.hid (HGo.out z wr.drew HB.out.drew)
      have HGz := Lib.hid (HGl.out z)
      have hS : ∀ O, backS x l O z = (goesF x z).foldl (fun o m => if m ∈ l then rputF z o else o) O := fun _ => rfl
      rw [hS] at HNx
      obtain ⟨O, hOe⟩ : ∃ O, (A.take i).foldl (backS x l) [] = O := ⟨_, rfl⟩
      obtain ⟨G, hGe⟩ : ∃ G, goesF x z = G := ⟨_, rfl⟩
      rw [hOe, hGe] at HNx
      rw [hOe] at HO HOl
      rw [hGe] at HG HGz
      have HCz := Lib.hid (fun Y (h : Below wr.heap.size wr Y) => (h.cell (World.block_lt_of_cell? _ _ hcz)).trans hcz)
      clear hz hbd hOl hOl2 hOe hGe hS
      go_wp2_with fail
      refine wp_region_tail 5 (by kernel_rfl) (by kernel_rfl) ?_
      simp only [List.take_succ_cons, List.take_zero, List.drop_succ_cons, List.drop_zero]
      iterate 5 ((with_reducible refine wpStill_step ?_); intro K hK; go_simp; (try (refine ite_neg_of (by simp [undef] <;> assumption) ?_)); (with_reducible refine hK _ ?_); clear hK K)
      (with_reducible refine wpStill_nil ?_)
      go_wp2_with fail
      (with_reducible refine HG.out.mono ?_)
      rintro e W2 ⟨⟨lv, rfl, hlv, _⟩, hb⟩
      have HB2 := Lib.hid (show Below wr.heap.size wr W2 from (Below.refl _ _).drew.trans hb)
      have HL := Lib.hid hlv
      have HO2 := Lib.hid (HO.out.step HB2.out)
      have HB3 := Lib.hid (HB.out.trans (HB2.out.mono HB.out.size))
      have HCz := Lib.hid (fun Y (h : Below W2.heap.size W2 Y) => HCz.out Y (HB2.out.trans (h.mono HB2.out.size)))
      obtain ⟨Al, cl, rfl, _⟩ := hlv.form
      obtain ⟨m, hm⟩ : ∃ m, G.length = m := ⟨_, rfl⟩
      have HM := Lib.hid hm
      rw [hm] at HL HGz ⊢
      have hm1 : m ≤ 1000 := HGz.out
      clear d0 d1 d2 hb hlv hcz hm HG
      go_wp2_with fail
      go_loopw [7, 10] (fun ov kv wq => ∃ k : Nat, kv = .int .i64 (k : Int) ∧ k ≤ m ∧ InSl wq wq.heap.size ov ((G.take k).foldl (fun o m => if m ∈ l then rputF z o else o) O) ∧ Below W2.heap.size W2 wq) (fun _ kv _ => m - (intOf kv).toNat)
      case atStart => exact ⟨0, rfl, by omega, HO2.out, Below.refl _ _⟩
      case round =>
        obtain ⟨k, rfl, hkm, hO, hb⟩ := hrel
        have HOk := Lib.hid hO
        have HBk := Lib.hid hb
        have HBk3 := Lib.hid (HB3.out.trans (hb.mono HB3.out.size))
        clear hO hb
        by_cases hkt : k < m
        · obtain ⟨y, adl, hy, rfl, _, hcy⟩ := ((show InA W2 W2.heap.size Al G from by obtain ⟨_, _, e, _, _, h⟩ := HL.out; cases e; exact h).below HBk.out).at_ HM.out hkt
          have HNy := Lib.hid (fold_next (f := fun o m => if m ∈ l then rputF z o else o) (o := O) hy)
          have hpl := fold_len (l := l) (z := z) (m := G.take k) (o := O)
          rw [List.length_take] at hpl
          obtain ⟨P, hP⟩ : ∃ P, (G.take k).foldl (fun o m => if m ∈ l then rputF z o else o) O = P := ⟨_, rfl⟩
          rw [hP] at HNy HOk hpl
          have HH1 := HH.out y wr HBk3.out
          have HPu := Lib.hid (fun Y (h : Below wr.heap.size wr Y) => rput_any _ P z Y (HOk.out.step h) (by have := HOl.out; omega))
          clear hy hpl hP
          by_cases hyl : y ∈ l
          · rw [decide_eq_true hyl] at HH1
            simp only [if_pos hyl] at HNy
            have HH1 := Lib.hid HH1
            clear hyl
            go_wp2_with fail
            (with_reducible refine HH1.out.mono ?_)
            rintro e W3 ⟨rfl, hb⟩
            have HB4 := Lib.hid (And.intro hb (HBk.out.trans (hb.mono HBk.out.size)))
            have hcz := HCz.out W3 HB4.out.2
            have HPv := Lib.hid (HPu.out W3 HB4.out.1)
            clear hb hcy
            go_wp2_with fail
            (with_reducible refine HPv.out.mono ?_)
            rintro e W4 ⟨⟨rv, rfl, hr⟩, hb⟩
            have HR4 := Lib.hid hr
            have HB5 := Lib.hid (HB4.out.2.trans (hb.mono HB4.out.2.size))
            clear hr hb hcz
            go_wp2_with fail
            go_roundw
            case rel => exact ⟨k + 1, by go_num, by omega, by rw [HNy.out]; exact HR4.out, HB5.out⟩
            case measure => simp [intOf]; omega
          · rw [decide_eq_false hyl] at HH1
            simp only [if_neg hyl] at HNy
            have HH1 := Lib.hid HH1
            clear hyl
            go_wp2_with fail
            (with_reducible refine HH1.out.mono ?_)
            rintro e W3 ⟨rfl, hb⟩
            have HB4 := Lib.hid (And.intro (HOk.out.step hb) (HBk.out.trans (hb.mono HBk.out.size)))
            clear hb hcy
            go_wp2_with fail
            go_roundw
            case rel => exact ⟨k + 1, by go_num, by omega, by rw [HNy.out]; exact HB4.out.1, HB4.out.2⟩
            case measure => simp [intOf]; omega
        · have HE := Lib.hid (show G.take k = G from List.take_of_length_le (by have := HM.out; omega))
          go_wp2_with fail
          go_roundw
          case rel => exact ⟨i + 1, by go_num, by omega, by rw [HNx.out, ← HE.out]; have h := HOk.out; rw [HE.out] at h ⊢; exact h, HBk3.out⟩
          case measure => simp [intOf]; omega
    · have HE := Lib.hid (show (A.take i).foldl (backS x l) [] = R from by rw [List.take_of_length_le (by have := HN.out; omega)]; exact HR.out)
      go_wp2_with fail
      go_ret
      exact ⟨⟨_, rfl, by rw [← HE.out]; exact HO.out⟩, HB0.out.trans (HB.out.mono HB0.out.size)⟩
end Go.Proofs.YtplpogonkfnafaaGreat
