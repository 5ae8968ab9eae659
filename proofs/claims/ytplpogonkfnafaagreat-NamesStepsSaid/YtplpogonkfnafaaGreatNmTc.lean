
/- leadsTo, where all is well; isSide of a version; versions have names only. -/
import Derived.Test.YtplpogonkfnafaaGreatNmTs
import Derived.Test.YtplpogonkfnafaaGreatNmQA
namespace Go.Proofs.YtplpogonkfnafaaGreat
open Go.RowKit Go.Nm

/-- all versions of a book have names, in order -/
theorem versF_ver : ∀ (l : List Ch) (a : List Int) (y : Int), Ver a → ∀ L ∈ versF a y l, Ver L
  | [], a, y, h, L, hL => by simp [versF] at hL; subst hL; exact h
  | x :: l, a, y, h, L, hL => by
    unfold versF at hL
    split at hL
    · rename_i hx
      rcases List.mem_cons.1 hL with rfl | hL
      · exact h
      · have hf := hx.2.2.1
        have ht := hx.2.2.2.1
        have hd : ∀ z ∈ x.to, z ∈ a → z ∈ x.fr := fun z hz hza => Classical.byContradiction fun hn => hx.2.2.2.2.2.1 z ((mem_wo ht.2.2.1 hf.2.2.1 z).2 ⟨hz, hn⟩) hza
        have hne : rep a x.fr x.to ≠ [] := rep_ne (fun e => by have := h.1; rw [e] at this; simp at this) (fun e => by have := ht.1; rw [e] at this; simp at this)
        refine versF_ver l _ _ ⟨List.length_pos_iff.2 hne, hx.2.2.2.2.2.2, rep_inc h.2.2.1 hf.2.2.1 ht.2.2.1 hd, fun z hz => ?_⟩ L hL
        rcases (mem_rep h.2.2.1 hf.2.2.1).1 hz with ⟨h1, _⟩ | ⟨h1, _⟩
        · exact h.2.2.2 z h1
        · exact ht.2.2.2 z h1
    · simp at hL; subst hL; exact h
theorem vers_ver {b : Bk} : ∀ L ∈ vers b, Ver L := fun L hL => by
  unfold vers at hL
  split at hL
  · rename_i h; exact versF_ver _ _ _ h L hL
  · simp at hL
set_option maxRecDepth 100000 in
set_option maxHeartbeats 4000000 in
theorem isSide_ver (u : Value) (L : List Int) (w : World) (hu : InSl w w.heap.size u L) (hV : Ver L) :
    Calls Tryz.prog 27 #[u] w fun e w' => e = .returned (.bool true) ∧ Below w.heap.size w w' := by
  have HV := Lib.hid (isVersion_any u L w hu (by have := hV.2.1; omega))
  rw [decide_eq_true hV] at HV
  obtain ⟨A, c, rfl, _⟩ := hu.form
  have h0 := hV.1
  clear hu hV
  generalize L.length = n at *
  have hn : ((n : Int) == 0) = false := by simp; omega
  go_enter Tryz.func27, Tryz.ntmps27
  go_wp2_with fail
  (with_reducible refine HV.out.mono ?_)
  rintro e w1 ⟨rfl, hb⟩
  have HB := Lib.hid hb
  clear hb
  go_wp2_with fail
  go_ret
  exact ⟨rfl, HB.out⟩
set_option maxRecDepth 100000 in
set_option maxHeartbeats 4000000 in
theorem leads1_good (u : Value) (l M : List Int) (B : Option Addr) (d : Nat) (p : Addr) (w : World) (hu : InSl w w.heap.size u l) (hm : InSl w w.heap.size (.slice B M.length d) M) (hp : w.cell? p = some (.slice B M.length d)) (hl : Inc l) (hM : Inc M) (hs : ∀ z ∈ l, z ∈ M) (hll : l.length ≤ 1000) (hMl : M.length ≤ 1000) :
    Calls Tryz.prog 57 #[u, .pointer (some p)] w fun e w' => e = .returned (.bool true) ∧ Below w.heap.size w w' := by
  have HI := Lib.hid (increasing_any u l w hu (by omega))
  rw [decide_eq_true hl] at HI
  have HA := Lib.hid (fun Y (h : Below w.heap.size w Y) => hasAll_any _ _ M l Y (hm.step h) (hu.step h) (by omega) (by omega))
  rw [decide_eq_true ((wo_nil hl hM).2 hs)] at HA
  obtain ⟨A, c, rfl, _⟩ := hu.form
  have HP := Lib.hid (fun Y (h : Below w.heap.size w Y) => (h.cell (World.block_lt_of_cell? _ _ hp)).trans hp)
  clear hu hm hp hl hM hs
  go_enter Tryz.func57, Tryz.ntmps57
  go_wp2_with fail
  (with_reducible refine HI.out.mono ?_)
  rintro e w1 ⟨rfl, hb⟩
  have HB := Lib.hid hb
  have hp1 := HP.out w1 hb
  have HA1 := Lib.hid (HA.out w1 hb)
  clear hb
  go_wp2_with fail
  (with_reducible refine HA1.out.mono ?_)
  rintro e w2 ⟨rfl, hb⟩
  have HB2 := Lib.hid (HB.out.trans (hb.mono HB.out.size))
  clear hb hp1
  go_wp2_with fail
  go_ret
  exact ⟨rfl, HB2.out⟩
set_option maxRecDepth 100000 in
set_option maxHeartbeats 4000000 in
theorem every1_good (u : Value) (l M : List Int) (B : Option Addr) (d : Nat) (p q : Addr) (w : World) (hu : InSl w w.heap.size u l) (hm : InSl w w.heap.size (.slice B M.length d) M) (hp : w.cell? p = some (.slice B M.length d)) (hq : w.cell? q = some (.func (.func 57) #[] #[.pointer (some p)])) (hl : Inc l) (hM : Inc M) (hs : ∀ z ∈ l, z ∈ M) (hll : l.length ≤ 1000) (hMl : M.length ≤ 1000) :
    Calls Tryz.prog 55 #[u, .pointer (some q)] w fun e w' => e = .returned (.bool false) ∧ Below w.heap.size w w' := by
  have HI := Lib.hid (leads1_good u l M B d p w hu hm hp hl hM hs hll hMl)
  obtain ⟨A, c, rfl, _⟩ := hu.form
  clear hu hm hp hl hM hs
  go_enter Tryz.func55, Tryz.ntmps55
  go_wp2_with fail
  (with_reducible refine HI.out.mono ?_)
  rintro e w1 ⟨rfl, hb⟩
  have HB := Lib.hid hb
  clear hb hq
  go_wp2_with fail
  go_ret
  exact ⟨rfl, HB.out⟩
set_option maxRecDepth 100000 in
set_option maxHeartbeats 4000000 in
theorem index_good (u : Value) (a : List (List Int)) (M : List Int) (B : Option Addr) (d : Nat) (p q : Addr) (w : World) (hu : VsSl w w.heap.size u a) (hm : InSl w w.heap.size (.slice B M.length d) M) (hp : w.cell? p = some (.slice B M.length d)) (hq : w.cell? q = some (.func (.func 57) #[] #[.pointer (some p)])) (hM : Inc M) (ha : ∀ l ∈ a, Inc l ∧ (∀ z ∈ l, z ∈ M) ∧ l.length ≤ 1000) (hMl : M.length ≤ 1000) (hal : a.length ≤ 100000) :
    Calls Tryz.prog 76 #[u, .func (.func 55) #[] #[.pointer (some q)]] w fun e w' => e = .returned (.int .i64 (-1)) ∧ Below w.heap.size w w' := by
  have HE := Lib.hid (fun l (v : Value) Y (hl : l ∈ a) (h : Below w.heap.size w Y) (hv : InSl Y Y.heap.size v l) => every1_good v l M B d p q Y hv (hm.step h) ((h.cell (World.block_lt_of_cell? _ _ hp)).trans hp) ((h.cell (World.block_lt_of_cell? _ _ hq)).trans hq) (ha l hl).1 hM (ha l hl).2.1 (ha l hl).2.2 hMl)
  have HU := Lib.hid hu
  obtain ⟨A, c, rfl⟩ := hu.form
  obtain ⟨n, hn⟩ : ∃ n, a.length = n := ⟨_, rfl⟩
  have HN := Lib.hid hn
  rw [hn] at HU hal ⊢
  clear hu hm hp hq hM ha hn
  go_enter Tryz.func76, Tryz.ntmps76
  go_wp2_with fail
  go_loopw [8] (fun iv wr => ∃ i : Nat, iv = .int .i64 (i : Int) ∧ i ≤ n ∧ Below w.heap.size w wr) (fun iv _ => n - (intOf iv).toNat)
  case atStart => exact ⟨0, rfl, by omega, Below.refl _ _⟩
  case round =>
    obtain ⟨i, rfl, hin, hb⟩ := hrel
    have HB := Lib.hid hb
    clear hb
    by_cases hlt : i < n
    · obtain ⟨ad, ug, l, rfl, hbd, hl, hcg, hgS⟩ := ((HU.out.below HB.out).mono HB.out.size).at_ hlt
      obtain ⟨Ag, cg, rfl, _⟩ := hgS.form
      have HE1 := Lib.hid (HE.out l _ wr (List.mem_of_getElem? hl) HB.out hgS)
      clear hbd hl hgS
      go_wp2_with fail
      (with_reducible refine HE1.out.mono ?_)
      rintro e w2 ⟨rfl, hb⟩
      have HB2 := Lib.hid (HB.out.trans (hb.mono HB.out.size))
      clear hb hcg
      go_wp2_with fail
      go_roundw
      case rel => exact ⟨i + 1, by go_num, by omega, HB2.out⟩
      case measure => simp [intOf]; omega
    · go_wp2_with fail
      go_ret
      exact ⟨rfl, HB.out⟩
set_option maxRecDepth 100000 in
set_option maxHeartbeats 4000000 in
theorem every_good (u : Value) (a : List (List Int)) (M : List Int) (B : Option Addr) (d : Nat) (p : Addr) (w : World) (hu : VsSl w w.heap.size u a) (hm : InSl w w.heap.size (.slice B M.length d) M) (hp : w.cell? p = some (.slice B M.length d)) (hM : Inc M) (ha : ∀ l ∈ a, Inc l ∧ (∀ z ∈ l, z ∈ M) ∧ l.length ≤ 1000) (hMl : M.length ≤ 1000) (hal : a.length ≤ 100000) :
    Calls Tryz.prog 28 #[u, .func (.func 57) #[] #[.pointer (some p)]] w fun e w' => e = .returned (.bool true) ∧ Below w.heap.size w w' := by
  have hb1 := below_new (w := w) (.cells #[.func (.func 57) #[] #[.pointer (some p)]] 63)
  have hn1 := World.alloc_heap_new w (.cells #[.func (.func 57) #[] #[.pointer (some p)]] 63)
  obtain ⟨W1, hW1⟩ : ∃ W1, w.alloc (.cells #[.func (.func 57) #[] #[.pointer (some p)]] 63) = W1 := ⟨_, rfl⟩
  rw [hW1] at hb1 hn1
  have HI := Lib.hid (index_good u a M B d p ⟨w.heap.size, 0, none⟩ W1 ((hu.below hb1).mono hb1.size) (hm.step hb1) ((hb1.cell (World.block_lt_of_cell? _ _ hp)).trans hp) (by simp [World.cell?, hn1]) hM ha hMl hal)
  obtain ⟨A, c, rfl⟩ := hu.form
  have HB := Lib.hid hb1
  have HW1 := Lib.hid hW1
  clear hu hm hp hM ha hb1 hn1 hW1
  have HC : Calls Tryz.prog 54 #[.slice A a.length c, .func (.func 55) #[] #[.pointer (some ⟨w.heap.size, 0, none⟩)]] W1 fun e w' => e = .returned (.bool false) ∧ Below W1.heap.size W1 w' := by
    go_enter Tryz.func54, Tryz.ntmps54
    go_wp2_with fail
    (with_reducible refine HI.out.mono ?_)
    rintro e w1 ⟨rfl, hb⟩
    have HB1 := Lib.hid hb
    clear hb
    go_wp2_with fail
    go_ret
    exact ⟨rfl, HB1.out⟩
  have HC2 := Lib.hid HC
  clear HC HI
  go_enter Tryz.func28, Tryz.ntmps28
  go_wp2_with fail
  rw [HW1.out]
  (with_reducible refine HC2.out.mono ?_)
  rintro e w1 ⟨rfl, hb⟩
  have HB1 := Lib.hid (HB.out.trans (hb.mono HB.out.size))
  clear hb
  go_wp2_with fail
  go_ret
  exact ⟨rfl, HB1.out⟩
set_option maxRecDepth 100000 in
set_option maxHeartbeats 4000000 in
theorem leadsTo_good (u v : Value) (a : List (List Int)) (M : List Int) (w : World) (hu : VsSl w w.heap.size u a) (hm : InSl w w.heap.size v M) (hM : Inc M) (ha : ∀ l ∈ a, Inc l ∧ (∀ z ∈ l, z ∈ M) ∧ l.length ≤ 1000) (hMl : M.length ≤ 1000) (hal : a.length ≤ 100000) :
    Calls Tryz.prog 30 #[u, v] w fun e w' => e = .returned (.bool true) ∧ Below w.heap.size w w' := by
  obtain ⟨B, d, rfl, _⟩ := hm.form
  have hb0 := below_new (w := w) (.cells #[.slice B M.length d] 58)
  have hn0 := World.alloc_heap_new w (.cells #[.slice B M.length d] 58)
  obtain ⟨W0, hW0⟩ : ∃ W0, w.alloc (.cells #[.slice B M.length d] 58) = W0 := ⟨_, rfl⟩
  rw [hW0] at hb0 hn0
  have HE := Lib.hid (every_good u a M B d ⟨w.heap.size, 0, none⟩ W0 ((hu.below hb0).mono hb0.size) (hm.step hb0) (by simp [World.cell?, hn0]) hM ha hMl hal)
  obtain ⟨A, c, rfl⟩ := hu.form
  have HB := Lib.hid hb0
  have HW0 := Lib.hid hW0
  clear hu hm hM ha hb0 hn0 hW0
  go_enter Tryz.func30, Tryz.ntmps30
  go_wp2_with fail
  rw [HW0.out]
  (with_reducible refine HE.out.mono ?_)
  rintro e w1 ⟨rfl, hb⟩
  have HB1 := Lib.hid (HB.out.trans (hb.mono HB.out.size))
  clear hb
  go_wp2_with fail
  go_ret
  exact ⟨rfl, HB1.out⟩
/-- a map of places: where each name stands -/
structure PlM (W : World) (mb n : Nat) (f : Int → Int) (X : World) (to : List Int) : Prop where
  mi : MI W mb n f X
  at_ : ∀ (k : Nat) (z : Int), to[k]? = some z → f z = (k : Int)
theorem MI.kept {W X Y : World} {mb n : Nat} {f : Int → Int} {row : Option Nat} (h : MI W mb n f X) (hg : X.grownBy Y row) (hr : ∀ r, row = some r → W.heap.size ≤ r ∧ r ≠ mb) : MI W mb n f Y := by
  obtain ⟨hb, hw, ⟨D, h1, h2⟩, h3⟩ := h
  exact ⟨hb.grown hg hb.size (fun k e => (hr k e).1), hw, ⟨D, h1.kept hg (fun e => (hr _ e.symm).2 rfl), h2⟩, h3⟩
theorem MI.step {W X Y : World} {mb n : Nat} {f : Int → Int} (h : MI W mb n f X) (hb : Below X.heap.size X Y) : MI W mb n f Y := h.kept (grown_of_below hb none) (fun _ e => nomatch e)
set_option maxRecDepth 100000 in
set_option maxHeartbeats 4000000 in
theorem placesOf_any (u : Value) (to : List Int) (w : World) (hu : InSl w w.heap.size u to) (hi : Inc to) (hw : ∀ z ∈ to, 1 ≤ z ∧ z ≤ 65535) (hl : to.length ≤ 1000) :
    Calls Tryz.prog 32 #[u] w fun e w' => ∃ mb f, e = .returned (.map (some mb)) ∧ PlM w mb to.length f w' to ∧ Below w.heap.size w w' := by
  obtain ⟨A, c, rfl, _⟩ := hu.form
  have HU := Lib.hid (show InA w w.heap.size A to from by obtain ⟨_, _, e, _, _, h⟩ := hu; cases e; exact h)
  have HI := Lib.hid hi
  have HWf := Lib.hid hw
  obtain ⟨n, hn⟩ : ∃ n, to.length = n := ⟨_, rfl⟩
  have HN := Lib.hid hn
  rw [hn] at hl ⊢
  have hm0 := (MS.made w w (Below.refl _ _)).mi
  have HM0 := Lib.hid (show MI w w.heap.size 0 (fun _ => 0) (w.alloc (.map #[] 0)) from by
    have h := hm0
    simpa using h)
  clear hu hi hw hn hm0
  have hmm := @run_makeMap Tryz.prog
  go_enter Tryz.func32, Tryz.ntmps32
  go_wp2_with fail
  go_loopw [9] (fun iv wr => ∃ (i : Nat) (f : Int → Int), iv = .int .i64 (i : Int) ∧ i ≤ n ∧ MI w w.heap.size i f wr ∧ ∀ (k : Nat) (z : Int), k < i → to[k]? = some z → f z = (k : Int)) (fun iv _ => n - (intOf iv).toNat)
  case atStart => exact ⟨0, _, rfl, by omega, HM0.out, fun k z hk => absurd hk (by omega)⟩
  case round =>
    obtain ⟨i, f, rfl, hin, hM, hq⟩ := hrel
    have HM := Lib.hid hM
    have HQ := Lib.hid hq
    clear hM hq
    by_cases hlt : i < n
    · obtain ⟨z, ad, hz, rfl, hbd, hcz⟩ := (HU.out.below HM.out.bel).at_ HN.out hlt
      have HZ := Lib.hid (wf_nm (HWf.out z (List.mem_of_getElem? hz)))
      have HQ2 := Lib.hid (show ∀ (k : Nat) (q : Int), k < i + 1 → to[k]? = some q → (if q = z then (i : Int) else f q) = (k : Int) from fun k q hk hq => by
        by_cases e : k = i
        · subst e
          rw [hz] at hq; injection hq with hq
          rw [if_pos hq.symm]
        · have h1 := (List.getElem?_eq_some_iff.1 hq)
          have h2 := (List.getElem?_eq_some_iff.1 hz)
          have := (List.pairwise_iff_getElem.1 HI.out) k i h1.1 h2.1 (by omega)
          rw [h1.2, h2.2] at this
          rw [if_neg (by omega)]
          exact HQ.out k q (by omega) hq)
      have hnm : i < maxLen := by unfold maxLen; omega
      have HIw := Lib.hid (show (Lit.int .i64 (i : Int)).wf = true from WalkArith.wf_i64 (by omega))
      clear hz hbd
      go_wp2_with (at_mapUpdate; refine wpList_put_mi rfl _ _ _ rfl HM.out hnm rfl z rfl HZ.out (i : Int) rfl HIw.out ?_; intro w4 hm4 hg4; have HM4 := Lib.hid hm4; clear hm4 hg4)
      go_roundw
      case rel => exact ⟨i + 1, _, by go_num, by omega, HM4.out, HQ2.out⟩
      case measure => simp [intOf]; omega
    · obtain rfl : i = n := by omega
      go_wp2_with fail
      go_ret
      exact ⟨_, f, rfl, ⟨HM.out, fun k z hz => HQ.out k z (by have := (List.getElem?_eq_some_iff.1 hz).1; have := HN.out; omega) hz⟩, HM.out.bel⟩
end Go.Proofs.YtplpogonkfnafaaGreat
