/- relation, Chain. -/
import Derived.Test.YtplpogonkfnafaaNmT
namespace Go.Proofs.Ytplpogonkfnafaa
open Go.RowKit Go.Nm

def relE (chs : List Ch) (n : Nat) (x : Int) (m : Nat) (y : Int) : Int :=
  if mns chs n [x] m = [y] then (if mns chs m [y] n = [x] then 1 else 2) else if mns chs m [y] n = [x] then 3 else if y ∈ mns chs n [x] m then 4 else 0
theorem shape (f : List Int) (y : Int) : f = [y] ∨ (∃ z, f = [z] ∧ z ≠ y) ∨ ((f.length : Int) ≠ 1 ∧ f ≠ [y]) := by
  match f with
  | [] => exact .inr (.inr ⟨by simp, by simp⟩)
  | [z] => by_cases h : z = y
           · exact .inl (by rw [h])
           · exact .inr (.inl ⟨z, rfl, h⟩)
  | z :: z' :: f => exact .inr (.inr ⟨by simp; omega, by simp⟩)
set_option maxRecDepth 100000 in
set_option maxHeartbeats 8000000 in
theorem relation_any (v vc : Value) (b : Bk) (n m : Nat) (x y : Int) (V W : List Int) (w : World) (hv : HsV w v b vc) (hs : Sm b) (hval : Val b) (hn : (vers b)[n]? = some V) (hx : x ∈ V) (hm : (vers b)[m]? = some W) :
    Calls Try.prog 81 #[v, .int .i64 n, .int .i64 x, .int .i64 m, .int .i64 y] w fun e w' => e = .returned (.int .i64 (relE b.chs n x m y)) ∧ Below w.heap.size w w' := by
  have hl := val_len hval
  have hnl : n ≤ b.chs.length := by have := (List.getElem?_eq_some_iff.1 hn).1; omega
  have hml : m ≤ b.chs.length := by have := (List.getElem?_eq_some_iff.1 hm).1; omega
  have h64 := hval.1
  obtain ⟨_, _, hinc, _⟩ := mns_ok hval hn (l := [x]) (by simp [Inc]) (by simp; exact hx) hnl hml
  have hv0 := hv
  obtain ⟨vs, rfl, h1, h2⟩ := hv
  obtain ⟨Av, cv, rfl⟩ := h1.form
  obtain ⟨A2, c2, rfl⟩ := h2.form
  have hb0 := below_new (w := w) (.cells #[.slice Av (vers b).length cv, .slice A2 b.chs.length c2] 67)
  have HB0 := Lib.hid (And.intro hb0 (World.alloc_heap_new w (.cells #[.slice Av (vers b).length cv, .slice A2 b.chs.length c2] 67)))
  have HM1 := Lib.hid (meaning_any _ _ b x n m _ (hv0.step hb0) hs h64 hnl hml)
  have HM2 := Lib.hid (fun w1 (hb : Below w.heap.size w w1) => meaning_any _ _ b y m n w1 (hv0.step hb) hs h64 hml hnl)
  have HRe := Lib.hid (show relE b.chs n x m y = if mns b.chs n [x] m = [y] then (if mns b.chs m [y] n = [x] then 1 else 2) else if mns b.chs m [y] n = [x] then 3 else if y ∈ mns b.chs n [x] m then 4 else 0 from rfl)
  have hlen : (mns b.chs n [x] m).length ≤ 400 := by
    obtain ⟨B, hB, h3, h4⟩ := mns_ok hval hn (l := [x]) (by simp [Inc]) (by simp; exact hx) hnl hml
    exact Nat.le_trans (inc_sub_len h3 h4) (vers_ok B (List.mem_of_getElem? hB)).2
  have HInc := Lib.hid hinc
  have HLen := Lib.hid hlen
  clear hinc hlen
  clear hv0 h1 h2 hb0 hs hn hx hm hl hnl hml h64 hval
  generalize relE b.chs n x m y = re at *
  generalize mns b.chs n [x] m = f at *
  generalize mns b.chs m [y] n = g at *
  go_enter Try.func81, Try.ntmps81
  go_wp2_with fail
  (with_reducible refine HM1.out.mono ?_)
  rintro e w1 ⟨⟨r1, rfl, hr1⟩, hb1⟩
  have HB1 := Lib.hid (show Below w.heap.size w w1 ∧ w1.heap[w.heap.size]? = some (.cells #[.slice Av (vers b).length cv, .slice A2 b.chs.length c2] 67) from ⟨HB0.out.1.trans (hb1.mono HB0.out.1.size), (hb1.block _ (Array.getElem?_eq_some_iff.1 HB0.out.2).1).trans HB0.out.2⟩)
  have HR1 := Lib.hid hr1
  have HC2 := Lib.hid (HM2.out w1 HB1.out.1)
  obtain ⟨k0, k1⟩ := cells_two HB1.out.2
  obtain ⟨A3, c3, rfl, _⟩ := hr1.form
  clear hb1 hr1 HM1 HM2 HB0
  have fin : ∀ (w2 : World), Below w1.heap.size w1 w2 → Below w.heap.size w w2 := fun w2 h => HB1.out.1.trans (h.mono HB1.out.1.size)
  have HFin := Lib.hid fin
  clear fin
  rcases shape f y with rfl | ⟨z, rfl, hz⟩ | ⟨hf1, hf2⟩
  · obtain ⟨ad1, rfl, _, hc1⟩ := (show InA w1 w1.heap.size A3 (y :: []) from by obtain ⟨A', c', e, _, _, h⟩ := HR1.out; injection e with e1; subst e1; exact h).first
    go_wp2_with fail
    (with_reducible refine HC2.out.mono ?_)
    rintro e w2 ⟨⟨r2, rfl, hr2⟩, hb2⟩
    have HB2 := Lib.hid hb2
    have HR2 := Lib.hid hr2
    obtain ⟨A4, c4, rfl, _⟩ := hr2.form
    clear hb2 hr2 HC2 k0 k1
    rcases shape g x with rfl | ⟨z2, rfl, hz2⟩ | ⟨hg1, hg2⟩
    · obtain ⟨ad2, rfl, _, hc2⟩ := (show InA w2 w2.heap.size A4 (x :: []) from by obtain ⟨A', c', e, _, _, h⟩ := HR2.out; injection e with e1; subst e1; exact h).first
      have HE := Lib.hid (show re = 1 from by rw [HRe.out]; simp [])
      clear HRe
      go_wp2_with fail
      go_ret
      exact ⟨ret_i HE.out.symm, HFin.out _ HB2.out⟩
    · obtain ⟨ad2, rfl, _, hc2⟩ := (show InA w2 w2.heap.size A4 (z2 :: []) from by obtain ⟨A', c', e, _, _, h⟩ := HR2.out; injection e with e1; subst e1; exact h).first
      have hzb2 : (z2 == x) = false := by simpa using hz2
      have HE := Lib.hid (show re = 2 from by rw [HRe.out]; simp [hz2])
      clear HRe
      go_wp2_with fail
      go_ret
      exact ⟨ret_i HE.out.symm, HFin.out _ HB2.out⟩
    · have hgb : ((g.length : Int) == 1) = false := by simpa using hg1
      have hgn : ¬ g.length = 1 := by omega
      have HE := Lib.hid (show re = 2 from by rw [HRe.out]; simp [hg2])
      clear HRe
      go_wp2_with fail
      go_ret
      exact ⟨ret_i HE.out.symm, HFin.out _ HB2.out⟩
  · obtain ⟨ad1, rfl, _, hc1⟩ := (show InA w1 w1.heap.size A3 (z :: []) from by obtain ⟨A', c', e, _, _, h⟩ := HR1.out; injection e with e1; subst e1; exact h).first
    have hzb : (z == y) = false := by simpa using hz
    go_wp2_with fail
    (with_reducible refine HC2.out.mono ?_)
    rintro e w2 ⟨⟨r2, rfl, hr2⟩, hb2⟩
    have HB2 := Lib.hid hb2
    have HR2 := Lib.hid hr2
    obtain ⟨A4, c4, rfl, _⟩ := hr2.form
    clear hb2 hr2 HC2 k0 k1
    rcases shape g x with rfl | ⟨z2, rfl, hz2⟩ | ⟨hg1, hg2⟩
    · obtain ⟨ad2, rfl, _, hc2⟩ := (show InA w2 w2.heap.size A4 (x :: []) from by obtain ⟨A', c', e, _, _, h⟩ := HR2.out; injection e with e1; subst e1; exact h).first
      have HE := Lib.hid (show re = 3 from by rw [HRe.out]; simp [hz])
      clear HRe
      go_wp2_with fail
      go_ret
      exact ⟨ret_i HE.out.symm, HFin.out _ HB2.out⟩
    · obtain ⟨ad2, rfl, _, hc2⟩ := (show InA w2 w2.heap.size A4 (z2 :: []) from by obtain ⟨A', c', e, _, _, h⟩ := HR2.out; injection e with e1; subst e1; exact h).first
      have hzb2 : (z2 == x) = false := by simpa using hz2
      have HHas := Lib.hid (has_any _ [z] y w2 (HR1.out.step HB2.out) HInc.out (by have := HLen.out; omega))
      have HE := Lib.hid (show re = if y ∈ [z] then 4 else 0 from by rw [HRe.out]; simp [hz, hz2])
      clear HRe
      by_cases hyf : y ∈ [z]
      · rw [decide_eq_true hyf] at HHas
        rw [if_pos hyf] at HE
        clear hyf
        go_wp2_with fail
        refine HHas.out.mono ?_
        rintro e w3 ⟨rfl, rfl⟩
        go_wp2_with fail
        go_ret
        exact ⟨ret_i HE.out.symm, HFin.out _ HB2.out⟩
      · rw [decide_eq_false hyf] at HHas
        rw [if_neg hyf] at HE
        clear hyf
        go_wp2_with fail
        refine HHas.out.mono ?_
        rintro e w3 ⟨rfl, rfl⟩
        go_wp2_with fail
        go_ret
        exact ⟨ret_i HE.out.symm, HFin.out _ HB2.out⟩
    · have hgb : ((g.length : Int) == 1) = false := by simpa using hg1
      have hgn : ¬ g.length = 1 := by omega
      have HHas := Lib.hid (has_any _ [z] y w2 (HR1.out.step HB2.out) HInc.out (by have := HLen.out; omega))
      have HE := Lib.hid (show re = if y ∈ [z] then 4 else 0 from by rw [HRe.out]; simp [hz, hg2])
      clear HRe
      by_cases hyf : y ∈ [z]
      · rw [decide_eq_true hyf] at HHas
        rw [if_pos hyf] at HE
        clear hyf
        go_wp2_with fail
        refine HHas.out.mono ?_
        rintro e w3 ⟨rfl, rfl⟩
        go_wp2_with fail
        go_ret
        exact ⟨ret_i HE.out.symm, HFin.out _ HB2.out⟩
      · rw [decide_eq_false hyf] at HHas
        rw [if_neg hyf] at HE
        clear hyf
        go_wp2_with fail
        refine HHas.out.mono ?_
        rintro e w3 ⟨rfl, rfl⟩
        go_wp2_with fail
        go_ret
        exact ⟨ret_i HE.out.symm, HFin.out _ HB2.out⟩
  · have hfb : ((f.length : Int) == 1) = false := by simpa using hf1
    have hfn : ¬ f.length = 1 := by omega
    go_wp2_with fail
    (with_reducible refine HC2.out.mono ?_)
    rintro e w2 ⟨⟨r2, rfl, hr2⟩, hb2⟩
    have HB2 := Lib.hid hb2
    have HR2 := Lib.hid hr2
    obtain ⟨A4, c4, rfl, _⟩ := hr2.form
    clear hb2 hr2 HC2 k0 k1
    rcases shape g x with rfl | ⟨z2, rfl, hz2⟩ | ⟨hg1, hg2⟩
    · obtain ⟨ad2, rfl, _, hc2⟩ := (show InA w2 w2.heap.size A4 (x :: []) from by obtain ⟨A', c', e, _, _, h⟩ := HR2.out; injection e with e1; subst e1; exact h).first
      have HE := Lib.hid (show re = 3 from by rw [HRe.out]; simp [hf2])
      clear HRe
      go_wp2_with fail
      go_ret
      exact ⟨ret_i HE.out.symm, HFin.out _ HB2.out⟩
    · obtain ⟨ad2, rfl, _, hc2⟩ := (show InA w2 w2.heap.size A4 (z2 :: []) from by obtain ⟨A', c', e, _, _, h⟩ := HR2.out; injection e with e1; subst e1; exact h).first
      have hzb2 : (z2 == x) = false := by simpa using hz2
      have HHas := Lib.hid (has_any _ f y w2 (HR1.out.step HB2.out) HInc.out (by have := HLen.out; omega))
      have HE := Lib.hid (show re = if y ∈ f then 4 else 0 from by rw [HRe.out]; simp [hf2, hz2])
      clear HRe
      by_cases hyf : y ∈ f
      · rw [decide_eq_true hyf] at HHas
        rw [if_pos hyf] at HE
        clear hyf
        go_wp2_with fail
        refine HHas.out.mono ?_
        rintro e w3 ⟨rfl, rfl⟩
        go_wp2_with fail
        go_ret
        exact ⟨ret_i HE.out.symm, HFin.out _ HB2.out⟩
      · rw [decide_eq_false hyf] at HHas
        rw [if_neg hyf] at HE
        clear hyf
        go_wp2_with fail
        refine HHas.out.mono ?_
        rintro e w3 ⟨rfl, rfl⟩
        go_wp2_with fail
        go_ret
        exact ⟨ret_i HE.out.symm, HFin.out _ HB2.out⟩
    · have hgb : ((g.length : Int) == 1) = false := by simpa using hg1
      have hgn : ¬ g.length = 1 := by omega
      have HHas := Lib.hid (has_any _ f y w2 (HR1.out.step HB2.out) HInc.out (by have := HLen.out; omega))
      have HE := Lib.hid (show re = if y ∈ f then 4 else 0 from by rw [HRe.out]; simp [hf2, hg2])
      clear HRe
      by_cases hyf : y ∈ f
      · rw [decide_eq_true hyf] at HHas
        rw [if_pos hyf] at HE
        clear hyf
        go_wp2_with fail
        refine HHas.out.mono ?_
        rintro e w3 ⟨rfl, rfl⟩
        go_wp2_with fail
        go_ret
        exact ⟨ret_i HE.out.symm, HFin.out _ HB2.out⟩
      · rw [decide_eq_false hyf] at HHas
        rw [if_neg hyf] at HE
        clear hyf
        go_wp2_with fail
        refine HHas.out.mono ?_
        rintro e w3 ⟨rfl, rfl⟩
        go_wp2_with fail
        go_ret
        exact ⟨ret_i HE.out.symm, HFin.out _ HB2.out⟩
end Go.Proofs.Ytplpogonkfnafaa
