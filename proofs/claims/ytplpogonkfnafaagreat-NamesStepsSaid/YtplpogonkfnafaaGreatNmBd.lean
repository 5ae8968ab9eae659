
/- relation, Chain, count, rich, Relate, Exact. -/
import Derived.Test.YtplpogonkfnafaaGreatNmBc
import Derived.Maps.OwnSet
import Derived.Maps.OwnOps
namespace Go.Proofs.YtplpogonkfnafaaGreat
open Go.RowKit Go.Nm

def relE (chs : List Ch) (n : Nat) (x : Int) (m : Nat) (y : Int) : Int :=
  if mns chs n [x] m = [y] then (if mns chs m [y] n = [x] then 1 else 2) else if mns chs m [y] n = [x] then 3 else if y ∈ mns chs n [x] m then 4 else 0
theorem shape (f : List Int) (y : Int) : f = [y] ∨ (∃ z, f = [z] ∧ z ≠ y) ∨ ((f.length : Int) ≠ 1 ∧ f ≠ [y]) := by
  match f with
  | [] => exact .inr (.inr ⟨by simp, by simp⟩)
  | [z] => by_cases h : z = y
           · exact .inl (by rw [h])
           · exact .inr (.inl ⟨z, rfl, h⟩)
  | z :: z' :: f => exact .inr (.inr ⟨by simp; omega, by simp⟩)
set_option maxRecDepth 100000 in
set_option maxHeartbeats 8000000 in
theorem relation_any (v vc : Value) (b : Bk) (n m : Nat) (x y : Int) (V W : List Int) (w : World) (hv : HsV w v b vc) (hs : Sm b) (hval : Val b) (hn : (vers b)[n]? = some V) (hx : x ∈ V) (hm : (vers b)[m]? = some W) :
    Calls Tryz.prog 43 #[v, .int .i64 n, .int .i64 x, .int .i64 m, .int .i64 y] w fun e w' => e = .returned (.int .i64 (relE b.chs n x m y)) ∧ Below w.heap.size w w' := by
  have hl := val_len hval
  have hnl : n ≤ b.chs.length := by have := (List.getElem?_eq_some_iff.1 hn).1; omega
  have hml : m ≤ b.chs.length := by have := (List.getElem?_eq_some_iff.1 hm).1; omega
  have h64 := hval.1
  obtain ⟨_, _, hinc, _⟩ := mns_ok hval hn (l := [x]) (by simp [Inc]) (by simp; exact hx) hnl hml
  have hv0 := hv
  obtain ⟨vs, rfl, h1, h2⟩ := hv
  obtain ⟨Av, cv, rfl⟩ := h1.form
  obtain ⟨A2, c2, rfl⟩ := h2.form
  have hb0 := below_new (w := w) (.cells #[.slice Av (vers b).length cv, .slice A2 b.chs.length c2] 55)
  have HB0 := Lib.hid (And.intro hb0 (World.alloc_heap_new w (.cells #[.slice Av (vers b).length cv, .slice A2 b.chs.length c2] 55)))
  have HM1 := Lib.hid (meaning_any _ _ b x n m _ (hv0.step hb0) hs h64 hnl hml)
  have HM2 := Lib.hid (fun w1 (hb : Below w.heap.size w w1) => meaning_any _ _ b y m n w1 (hv0.step hb) hs h64 hml hnl)
  have HRe := Lib.hid (show relE b.chs n x m y = if mns b.chs n [x] m = [y] then (if mns b.chs m [y] n = [x] then 1 else 2) else if mns b.chs m [y] n = [x] then 3 else if y ∈ mns b.chs n [x] m then 4 else 0 from rfl)
  have hlen : (mns b.chs n [x] m).length ≤ 400 := by
    obtain ⟨B, hB, h3, h4⟩ := mns_ok hval hn (l := [x]) (by simp [Inc]) (by simp; exact hx) hnl hml
    exact Nat.le_trans (inc_sub_len h3 h4) (vers_ok B (List.mem_of_getElem? hB)).2
  have HInc := Lib.hid hinc
  have HLen := Lib.hid hlen
  clear hinc hlen
  clear hv0 h1 h2 hb0 hs hn hx hm hl hnl hml h64 hval
  generalize relE b.chs n x m y = re at *
  generalize mns b.chs n [x] m = f at *
  generalize mns b.chs m [y] n = g at *
  go_enter Tryz.func43, Tryz.ntmps43
  go_wp2_with fail
  (with_reducible refine HM1.out.mono ?_)
  rintro e w1 ⟨⟨r1, rfl, hr1⟩, hb1⟩
  have HB1 := Lib.hid (show Below w.heap.size w w1 ∧ w1.heap[w.heap.size]? = some (.cells #[.slice Av (vers b).length cv, .slice A2 b.chs.length c2] 55) from ⟨HB0.out.1.trans (hb1.mono HB0.out.1.size), (hb1.block _ (Array.getElem?_eq_some_iff.1 HB0.out.2).1).trans HB0.out.2⟩)
  have HR1 := Lib.hid hr1
  have HC2 := Lib.hid (HM2.out w1 HB1.out.1)
  obtain ⟨k0, k1⟩ := cells_two HB1.out.2
  obtain ⟨A3, c3, rfl, _⟩ := hr1.form
  clear hb1 hr1 HM1 HM2 HB0
  have fin : ∀ (w2 : World), Below w1.heap.size w1 w2 → Below w.heap.size w w2 := fun w2 h => HB1.out.1.trans (h.mono HB1.out.1.size)
  have HFin := Lib.hid fin
  clear fin
  rcases shape f y with rfl | ⟨z, rfl, hz⟩ | ⟨hf1, hf2⟩
  · obtain ⟨ad1, rfl, _, hc1⟩ := (show InA w1 w1.heap.size A3 (y :: []) from by obtain ⟨A', c', e, _, _, h⟩ := HR1.out; injection e with e1; subst e1; exact h).first
    go_wp2_with fail
    (with_reducible refine HC2.out.mono ?_)
    rintro e w2 ⟨⟨r2, rfl, hr2⟩, hb2⟩
    have HB2 := Lib.hid hb2
    have HR2 := Lib.hid hr2
    obtain ⟨A4, c4, rfl, _⟩ := hr2.form
    clear hb2 hr2 HC2 k0 k1
    rcases shape g x with rfl | ⟨z2, rfl, hz2⟩ | ⟨hg1, hg2⟩
    · obtain ⟨ad2, rfl, _, hc2⟩ := (show InA w2 w2.heap.size A4 (x :: []) from by obtain ⟨A', c', e, _, _, h⟩ := HR2.out; injection e with e1; subst e1; exact h).first
      have HE := Lib.hid (show re = 1 from by rw [HRe.out]; simp [])
      clear HRe
      go_wp2_with fail
      go_ret
      exact ⟨ret_i HE.out.symm, HFin.out _ HB2.out⟩
    · obtain ⟨ad2, rfl, _, hc2⟩ := (show InA w2 w2.heap.size A4 (z2 :: []) from by obtain ⟨A', c', e, _, _, h⟩ := HR2.out; injection e with e1; subst e1; exact h).first
      have hzb2 : (z2 == x) = false := by simpa using hz2
      have HE := Lib.hid (show re = 2 from by rw [HRe.out]; simp [hz2])
      clear HRe
      go_wp2_with fail
      go_ret
      exact ⟨ret_i HE.out.symm, HFin.out _ HB2.out⟩
    · have hgb : ((g.length : Int) == 1) = false := by simpa using hg1
      have hgn : ¬ g.length = 1 := by omega
      have HE := Lib.hid (show re = 2 from by rw [HRe.out]; simp [hg2])
      clear HRe
      go_wp2_with fail
      go_ret
      exact ⟨ret_i HE.out.symm, HFin.out _ HB2.out⟩
  · obtain ⟨ad1, rfl, _, hc1⟩ := (show InA w1 w1.heap.size A3 (z :: []) from by obtain ⟨A', c', e, _, _, h⟩ := HR1.out; injection e with e1; subst e1; exact h).first
    have hzb : (z == y) = false := by simpa using hz
    go_wp2_with fail
    (with_reducible refine HC2.out.mono ?_)
    rintro e w2 ⟨⟨r2, rfl, hr2⟩, hb2⟩
    have HB2 := Lib.hid hb2
    have HR2 := Lib.hid hr2
    obtain ⟨A4, c4, rfl, _⟩ := hr2.form
    clear hb2 hr2 HC2 k0 k1
    rcases shape g x with rfl | ⟨z2, rfl, hz2⟩ | ⟨hg1, hg2⟩
    · obtain ⟨ad2, rfl, _, hc2⟩ := (show InA w2 w2.heap.size A4 (x :: []) from by obtain ⟨A', c', e, _, _, h⟩ := HR2.out; injection e with e1; subst e1; exact h).first
      have HE := Lib.hid (show re = 3 from by rw [HRe.out]; simp [hz])
      clear HRe
      go_wp2_with fail
      go_ret
      exact ⟨ret_i HE.out.symm, HFin.out _ HB2.out⟩
    · obtain ⟨ad2, rfl, _, hc2⟩ := (show InA w2 w2.heap.size A4 (z2 :: []) from by obtain ⟨A', c', e, _, _, h⟩ := HR2.out; injection e with e1; subst e1; exact h).first
      have hzb2 : (z2 == x) = false := by simpa using hz2
      have HHas := Lib.hid (has_any _ [z] y w2 (HR1.out.step HB2.out) HInc.out (by have := HLen.out; omega))
      have HE := Lib.hid (show re = if y ∈ [z] then 4 else 0 from by rw [HRe.out]; simp [hz, hz2])
      clear HRe
      by_cases hyf : y ∈ [z]
      · rw [decide_eq_true hyf] at HHas
        rw [if_pos hyf] at HE
        clear hyf
        go_wp2_with fail
        refine HHas.out.mono ?_
        rintro e w3 ⟨rfl, rfl⟩
        go_wp2_with fail
        go_ret
        exact ⟨ret_i HE.out.symm, HFin.out _ HB2.out⟩
      · rw [decide_eq_false hyf] at HHas
        rw [if_neg hyf] at HE
        clear hyf
        go_wp2_with fail
        refine HHas.out.mono ?_
        rintro e w3 ⟨rfl, rfl⟩
        go_wp2_with fail
        go_ret
        exact ⟨ret_i HE.out.symm, HFin.out _ HB2.out⟩
    · have hgb : ((g.length : Int) == 1) = false := by simpa using hg1
      have hgn : ¬ g.length = 1 := by omega
      have HHas := Lib.hid (has_any _ [z] y w2 (HR1.out.step HB2.out) HInc.out (by have := HLen.out; omega))
      have HE := Lib.hid (show re = if y ∈ [z] then 4 else 0 from by rw [HRe.out]; simp [hz, hg2])
      clear HRe
      by_cases hyf : y ∈ [z]
      · rw [decide_eq_true hyf] at HHas
        rw [if_pos hyf] at HE
        clear hyf
        go_wp2_with fail
        refine HHas.out.mono ?_
        rintro e w3 ⟨rfl, rfl⟩
        go_wp2_with fail
        go_ret
        exact ⟨ret_i HE.out.symm, HFin.out _ HB2.out⟩
      · rw [decide_eq_false hyf] at HHas
        rw [if_neg hyf] at HE
        clear hyf
        go_wp2_with fail
        refine HHas.out.mono ?_
        rintro e w3 ⟨rfl, rfl⟩
        go_wp2_with fail
        go_ret
        exact ⟨ret_i HE.out.symm, HFin.out _ HB2.out⟩
  · have hfb : ((f.length : Int) == 1) = false := by simpa using hf1
    have hfn : ¬ f.length = 1 := by omega
    go_wp2_with fail
    (with_reducible refine HC2.out.mono ?_)
    rintro e w2 ⟨⟨r2, rfl, hr2⟩, hb2⟩
    have HB2 := Lib.hid hb2
    have HR2 := Lib.hid hr2
    obtain ⟨A4, c4, rfl, _⟩ := hr2.form
    clear hb2 hr2 HC2 k0 k1
    rcases shape g x with rfl | ⟨z2, rfl, hz2⟩ | ⟨hg1, hg2⟩
    · obtain ⟨ad2, rfl, _, hc2⟩ := (show InA w2 w2.heap.size A4 (x :: []) from by obtain ⟨A', c', e, _, _, h⟩ := HR2.out; injection e with e1; subst e1; exact h).first
      have HE := Lib.hid (show re = 3 from by rw [HRe.out]; simp [hf2])
      clear HRe
      go_wp2_with fail
      go_ret
      exact ⟨ret_i HE.out.symm, HFin.out _ HB2.out⟩
    · obtain ⟨ad2, rfl, _, hc2⟩ := (show InA w2 w2.heap.size A4 (z2 :: []) from by obtain ⟨A', c', e, _, _, h⟩ := HR2.out; injection e with e1; subst e1; exact h).first
      have hzb2 : (z2 == x) = false := by simpa using hz2
      have HHas := Lib.hid (has_any _ f y w2 (HR1.out.step HB2.out) HInc.out (by have := HLen.out; omega))
      have HE := Lib.hid (show re = if y ∈ f then 4 else 0 from by rw [HRe.out]; simp [hf2, hz2])
      clear HRe
      by_cases hyf : y ∈ f
      · rw [decide_eq_true hyf] at HHas
        rw [if_pos hyf] at HE
        clear hyf
        go_wp2_with fail
        refine HHas.out.mono ?_
        rintro e w3 ⟨rfl, rfl⟩
        go_wp2_with fail
        go_ret
        exact ⟨ret_i HE.out.symm, HFin.out _ HB2.out⟩
      · rw [decide_eq_false hyf] at HHas
        rw [if_neg hyf] at HE
        clear hyf
        go_wp2_with fail
        refine HHas.out.mono ?_
        rintro e w3 ⟨rfl, rfl⟩
        go_wp2_with fail
        go_ret
        exact ⟨ret_i HE.out.symm, HFin.out _ HB2.out⟩
    · have hgb : ((g.length : Int) == 1) = false := by simpa using hg1
      have hgn : ¬ g.length = 1 := by omega
      have HHas := Lib.hid (has_any _ f y w2 (HR1.out.step HB2.out) HInc.out (by have := HLen.out; omega))
      have HE := Lib.hid (show re = if y ∈ f then 4 else 0 from by rw [HRe.out]; simp [hf2, hg2])
      clear HRe
      by_cases hyf : y ∈ f
      · rw [decide_eq_true hyf] at HHas
        rw [if_pos hyf] at HE
        clear hyf
        go_wp2_with fail
        refine HHas.out.mono ?_
        rintro e w3 ⟨rfl, rfl⟩
        go_wp2_with fail
        go_ret
        exact ⟨ret_i HE.out.symm, HFin.out _ HB2.out⟩
      · rw [decide_eq_false hyf] at HHas
        rw [if_neg hyf] at HE
        clear hyf
        go_wp2_with fail
        refine HHas.out.mono ?_
        rintro e w3 ⟨rfl, rfl⟩
        go_wp2_with fail
        go_ret
        exact ⟨ret_i HE.out.symm, HFin.out _ HB2.out⟩
end Go.Proofs.YtplpogonkfnafaaGreat
namespace Go.Proofs.YtplpogonkfnafaaGreat
open Go.RowKit Go.Nm

theorem arr45 {t : Array Value} (h : t.size = 45) : ∃ f : Nat → Value, t = #[f 0, f 1, f 2, f 3, f 4, f 5, f 6, f 7, f 8, f 9, f 10, f 11, f 12, f 13, f 14, f 15, f 16, f 17, f 18, f 19, f 20, f 21, f 22, f 23, f 24, f 25, f 26, f 27, f 28, f 29, f 30, f 31, f 32, f 33, f 34, f 35, f 36, f 37, f 38, f 39, f 40, f 41, f 42, f 43, f 44] := by
  refine ⟨fun k => t.getD k undef, ?_⟩
  apply Array.ext
  · simpa using h
  · intro i h1 h2
    have : i < 45 := by omega
    have hi : i = 0 ∨ i = 1 ∨ i = 2 ∨ i = 3 ∨ i = 4 ∨ i = 5 ∨ i = 6 ∨ i = 7 ∨ i = 8 ∨ i = 9 ∨ i = 10 ∨ i = 11 ∨ i = 12 ∨ i = 13 ∨ i = 14 ∨ i = 15 ∨ i = 16 ∨ i = 17 ∨ i = 18 ∨ i = 19 ∨ i = 20 ∨ i = 21 ∨ i = 22 ∨ i = 23 ∨ i = 24 ∨ i = 25 ∨ i = 26 ∨ i = 27 ∨ i = 28 ∨ i = 29 ∨ i = 30 ∨ i = 31 ∨ i = 32 ∨ i = 33 ∨ i = 34 ∨ i = 35 ∨ i = 36 ∨ i = 37 ∨ i = 38 ∨ i = 39 ∨ i = 40 ∨ i = 41 ∨ i = 42 ∨ i = 43 ∨ i = 44 := by omega
    rcases hi with rfl | rfl | rfl | rfl | rfl | rfl | rfl | rfl | rfl | rfl | rfl | rfl | rfl | rfl | rfl | rfl | rfl | rfl | rfl | rfl | rfl | rfl | rfl | rfl | rfl | rfl | rfl | rfl | rfl | rfl | rfl | rfl | rfl | rfl | rfl | rfl | rfl | rfl | rfl | rfl | rfl | rfl | rfl | rfl | rfl <;> simp [Array.getD, h1]
/-- while a change is looked at: what holds, by which operations are done -/
structure ChG (W : World) (n x i len : Int) (gh gx : Nat) (vc o hv vf : Value) (F : List Int) (q : Bool) (f0 : Nat → Value) (dn : Nat → Bool) (a : Act) (X : World) : Prop where
  sz : a.tmps.size = 45
  t0 : a.tmps.getD 0 undef = f0 0
  t1 : a.tmps.getD 1 undef = .int .i64 n
  t2 : a.tmps.getD 2 undef = .int .i64 x
  t3 : a.tmps.getD 3 undef = f0 3
  t4 : a.tmps.getD 4 undef = f0 4
  t5 : a.tmps.getD 5 undef = f0 5
  t6 : a.tmps.getD 6 undef = .slice none 0 0
  t7 : a.tmps.getD 7 undef = .int .i64 0
  t8 : a.tmps.getD 8 undef = .pointer (some ⟨gh, 0, none⟩)
  t9 : a.tmps.getD 9 undef = f0 9
  t10 : a.tmps.getD 10 undef = o
  t11 : a.tmps.getD 11 undef = .int .i64 i
  t12 : a.tmps.getD 12 undef = .pointer (some ⟨gx, 0, none⟩)
  t13 : a.tmps.getD 13 undef = f0 13
  t14 : a.tmps.getD 14 undef = f0 14
  t15 : a.tmps.getD 15 undef = f0 15
  t16 : a.tmps.getD 16 undef = f0 16
  t17 : a.tmps.getD 17 undef = f0 17
  t18 : a.tmps.getD 18 undef = f0 18
  t19 : a.tmps.getD 19 undef = f0 19
  t20 : a.tmps.getD 20 undef = f0 20
  t21 : a.tmps.getD 21 undef = f0 21
  t22 : a.tmps.getD 22 undef = f0 22
  t23 : a.tmps.getD 23 undef = f0 23
  t24 : a.tmps.getD 24 undef = vc
  t25 : a.tmps.getD 25 undef = .int .i64 len
  t26 : a.tmps.getD 26 undef = .int .i64 i
  t44 : a.tmps.getD 44 undef = undef
  ds : a.defers = []
  bel : Below W.heap.size W X
  e0 : dn 0 = true → a.tmps.getD 31 undef = .pointer (some ⟨gx, 1, none⟩)
  e1 : dn 1 = true → a.tmps.getD 32 undef = vf
  e2 : dn 2 = true → a.tmps.getD 33 undef = hv
  e3 : dn 3 = true → a.tmps.getD 34 undef = .int .i64 n
  e4 : dn 4 = true → a.tmps.getD 35 undef = .int .i64 x
  e5 : dn 5 = true → a.tmps.getD 36 undef = .int .i64 i
  e6 : dn 6 = true → InSl X X.heap.size (a.tmps.getD 37 undef) F
  e7 : dn 7 = true → a.tmps.getD 38 undef = .bool q
  o6 : dn 6 = true → dn 2 = true ∧ dn 3 = true ∧ dn 4 = true ∧ dn 5 = true
  o7 : dn 7 = true → dn 1 = true ∧ dn 6 = true
theorem ChG.all {W : World} {n x i len : Int} {gh gx : Nat} {vc o hv vf : Value} {F : List Int} {q : Bool} {f0 : Nat → Value} {dn : Nat → Bool} {a : Act} {X : World} (h : ChG W n x i len gh gx vc o hv vf F q f0 dn a X) (hd : ∀ j, j < 8 → dn j = true) : ChG W n x i len gh gx vc o hv vf F q f0 (fun _ => true) a X :=
  ⟨h.sz, h.t0, h.t1, h.t2, h.t3, h.t4, h.t5, h.t6, h.t7, h.t8, h.t9, h.t10, h.t11, h.t12, h.t13, h.t14, h.t15, h.t16, h.t17, h.t18, h.t19, h.t20, h.t21, h.t22, h.t23, h.t24, h.t25, h.t26, h.t44, h.ds, h.bel, fun _ => h.e0 (hd 0 (by omega)), fun _ => h.e1 (hd 1 (by omega)), fun _ => h.e2 (hd 2 (by omega)), fun _ => h.e3 (hd 3 (by omega)), fun _ => h.e4 (hd 4 (by omega)), fun _ => h.e5 (hd 5 (by omega)), fun _ => h.e6 (hd 6 (by omega)), fun _ => h.e7 (hd 7 (by omega)), fun _ => ⟨rfl, rfl, rfl, rfl⟩, fun _ => ⟨rfl, rfl⟩⟩
/-- the changes that touch a name, among the first -/
def chainT (chs : List Ch) (n : Nat) (x : Int) (k : Nat) : List Int := ((List.range k).filter fun i => match chs[i]? with | some c => (mns chs n [x] i).any fun z => decide (z ∈ c.fr) | none => false).map fun i : Nat => (i : Int)
def chainOut (b : Bk) (n x : Int) : List Int × Int := if openAtE b [] n x = 0 then (chainT b.chs n.toNat x b.chs.length, 0) else ([], openAtE b [] n x)
theorem chainT_next {chs : List Ch} {n k : Nat} {x : Int} {c : Ch} (h : chs[k]? = some c) : chainT chs n x (k + 1) = chainT chs n x k ++ (if (mns chs n [x] k).any (fun z => decide (z ∈ c.fr)) then [(k : Int)] else []) := by
  unfold chainT
  rw [List.range_succ, List.filter_append, List.map_append]
  congr 1
  rw [List.filter_cons, List.filter_nil, h]
  cases hq : (mns chs n [x] k).any (fun z => decide (z ∈ c.fr)) <;> simp [hq]
theorem meas_next {len k : Nat} (h : k < len) (hl : len ≤ 1000) : len - (wrap64 ((k : Int) + 1)).toNat < len - k := by
  have e1 : wrap64 ((k : Int) + 1) = (k : Int) + 1 := by unfold wrap64; omega
  rw [e1]; omega
theorem chainT_len (chs : List Ch) (n : Nat) (x : Int) (k : Nat) : (chainT chs n x k).length ≤ k := by
  unfold chainT
  rw [List.length_map]
  exact Nat.le_trans (List.length_filter_le _ _) (by simp)
set_option maxRecDepth 100000 in
set_option maxHeartbeats 16000000 in
theorem Chain_any (v vc : Value) (b : Bk) (n x : Int) (w : World) (hv : BkV w v b vc) (hs : Sm b) :
    Calls Tryz.prog 20 #[v, .int .i64 n, .int .i64 x] w (OutN (chainOut b n x).1 (chainOut b n x).2 w) := by
  have hv0 := hv
  obtain ⟨v1, rfl, h1, h2⟩ := hv
  obtain ⟨A1, c1, rfl, _⟩ := h1.form
  obtain ⟨A2, c2, rfl⟩ := h2.form
  have hb0 := below_new (w := w) (.cells #[.slice A1 b.first.length c1, .slice A2 b.chs.length c2] 25)
  have HO := Lib.hid (openAt_any w _ _ _ (.slice none 0 0) n x [] b hv0 hs hb0 (World.ownsRow_nil _ _ _ _) (by simp))
  have HM := Lib.hid (show chainOut b n x = if openAtE b [] n x = 0 then (chainT b.chs n.toNat x b.chs.length, 0) else ([], openAtE b [] n x) from rfl)
  have HZ := Lib.hid (openAtE_zero (b := b) (V := []) (n := n) (x := x))
  have HS := Lib.hid hs
  clear hv0 h1 h2 hb0 hs
  generalize chainOut b n x = o at *
  generalize openAtE b [] n x = er at *
  obtain ⟨oR, oE⟩ := o
  dsimp only
  go_enter Tryz.func20, Tryz.ntmps20
  go_wp2_with fail
  (with_reducible refine HO.out.mono ?_)
  rintro e w1 ⟨u, rfl, hu0, hu1, hb⟩
  have HB := Lib.hid hb
  clear hb
  by_cases he : er = 0
  · subst he
    obtain ⟨hval, hV, hx⟩ := HZ.out rfl
    obtain ⟨n0, n1⟩ := hV n (by simp)
    obtain ⟨n', rfl⟩ : ∃ k : Nat, n = (k : Int) := ⟨n.toNat, by omega⟩
    rw [if_pos rfl] at HM
    have hM := HM.out
    injection hM with hM1 hM2
    subst hM2
    have hH := hu0 rfl
    obtain ⟨Av, cv, rfl⟩ := hH.form
    have hb2 := below_new (w := w1) (.cells #[.slice Av (vers b).length cv, .slice A2 b.chs.length c2] 55)
    have HH := Lib.hid (hH.step hb2)
    have HW := Lib.hid (And.intro (HB.out.trans (hb2.mono HB.out.size)) (World.alloc_heap_new w1 (.cells #[.slice Av (vers b).length cv, .slice A2 b.chs.length c2] 55)))
    have HVal := Lib.hid hval
    have HMl := Lib.hid hM1
    have HNx := Lib.hid (And.intro n1 hx)
    obtain ⟨k0, k1⟩ := cells_two HW.out.2
    clear hH hb2 hu0 hu1 hV hx hval n0 n1 HZ hM1 HM
    generalize hlen : b.chs.length = len at *
    have HLen := Lib.hid hlen
    clear hlen
    go_wp2_with fail
    obtain ⟨W, hW⟩ : ∃ W, w1.alloc (.cells #[.slice Av (vers b).length cv, .slice A2 len c2] 55) = W := ⟨_, rfl⟩
    rw [hW] at HH HW k0 k1 ⊢
    have hgh : w1.heap.size < W.heap.size := by rw [← hW]; simp
    clear hW
    go_loopw [10, 26] (fun ov iv wr => ∃ (k : Nat), iv = .int .i64 (k : Int) ∧ k ≤ len ∧ OwN W ov (chainT b.chs n' x k) wr) (fun _ iv _ => len - (intOf iv).toNat)
    case atStart => exact ⟨0, rfl, by omega, by simpa [chainT] using OwN.start W⟩
    case round =>
      obtain ⟨k, rfl, hkl, hO⟩ := hrel
      have HO1 := Lib.hid hO
      clear hO
      by_cases hlt : k < len
      · obtain ⟨c, ad, vf, vt, hc, rfl, hbd, d0, d1, d2, hf, ht⟩ := ((show ChSl W W.heap.size (.slice A2 len c2) b.chs from by obtain ⟨_, _, _, h⟩ := HH.out; exact h).step HO1.out.bel).at_ hlt
        obtain ⟨Af, cf, rfl, _⟩ := hf.form
        obtain ⟨At, ct, rfl, _⟩ := ht.form
        have HX := Lib.hid (chainT_next (n := n') (x := x) hc)
        have HSx := Lib.hid (HS.out.2.2 c (List.mem_of_getElem? hc))
        have HIc := Lib.hid (show Inc c.fr from by obtain ⟨_, _, _, _, g3⟩ := step_data HVal.out hc; exact g3.ifr)
        have HFr := Lib.hid hf
        obtain ⟨q, hq⟩ : ∃ q, (mns b.chs n' [x] k).any (fun z => decide (z ∈ c.fr)) = q := ⟨_, rfl⟩
        have HLm := Lib.hid (show (mns b.chs n' [x] k).length ≤ 400 from by
          obtain ⟨V, hV, _⟩ := vers_at HVal.out (k := n') (by have := HNx.out.1; have := HLen.out; omega)
          have hxV : x ∈ V := by have := HNx.out.2; rw [Int.toNat_natCast, List.getD_eq_getElem?_getD, hV] at this; exact this
          obtain ⟨B, hB, h3, h4⟩ := mns_ok HVal.out hV (l := [x]) (by simp [Inc]) (by simp; exact hxV) (by have := HNx.out.1; have := HLen.out; omega) (w := k) (by have := HLen.out; omega)
          exact Nat.le_trans (inc_sub_len h3 h4) (vers_ok B (List.mem_of_getElem? hB)).2)
        have HMe := Lib.hid (fun Y (hb : Below (wr.alloc (.cells #[.int .i64 c.yr, .slice Af c.fr.length cf, .slice At c.to.length ct] 52)).heap.size (wr.alloc (.cells #[.int .i64 c.yr, .slice Af c.fr.length cf, .slice At c.to.length ct] 52)) Y) =>
          meaning_any _ _ b x n' k Y (((HH.out.step HO1.out.bel).step (below_new _)).step hb) HS.out HVal.out.1 (by have := HNx.out.1; have := HLen.out; omega) (by have := HLen.out; omega))
        have HHs := Lib.hid (fun Y vv (hb : Below (wr.alloc (.cells #[.int .i64 c.yr, .slice Af c.fr.length cf, .slice At c.to.length ct] 52)).heap.size (wr.alloc (.cells #[.int .i64 c.yr, .slice Af c.fr.length cf, .slice At c.to.length ct] 52)) Y) (hv : InSl Y Y.heap.size vv (mns b.chs n' [x] k)) =>
          (show Calls Tryz.prog 44 #[.slice Af c.fr.length cf, vv] Y fun e w' => e = .returned (.bool q) ∧ Y = w' from by
            rw [← hq]; exact hasSome_any _ vv c.fr _ Y ((HFr.out.step (below_new _)).step hb) hv HIc.out (by have := HLm.out; omega) (by have := HSx.out; omega)))
        have HQ := Lib.hid hq
        have HN8 := Lib.hid (World.alloc_heap_new wr (.cells #[.int .i64 c.yr, .slice Af c.fr.length cf, .slice At c.to.length ct] 52))
        have HB8 := Lib.hid (below_new (w := wr) (.cells #[.int .i64 c.yr, .slice Af c.fr.length cf, .slice At c.to.length ct] 52))
        have hgw : w1.heap.size < wr.heap.size := Nat.lt_of_lt_of_le hgh HO1.out.bound
        have HK := Lib.hid (show wr.cell? ⟨w1.heap.size, 0, none⟩ = some (.slice Av (vers b).length cv) ∧ wr.cell? ⟨w1.heap.size, 1, none⟩ = some (.slice (some ad) len c2) from
          ⟨(HO1.out.bel.cell (p := ⟨w1.heap.size, 0, none⟩) hgh).trans k0, (HO1.out.bel.cell (p := ⟨w1.heap.size, 1, none⟩) hgh).trans k1⟩)
        clear hf ht hc hq hbd
        generalize mns b.chs n' [x] k = F at *
        go_wp2_with fail
        obtain ⟨W8, hW8⟩ : ∃ W8, wr.alloc (.cells #[.int .i64 c.yr, .slice Af c.fr.length cf, .slice At c.to.length ct] 52) = W8 := ⟨_, rfl⟩
        rw [hW8] at HB8 HN8 HMe HHs ⊢
        clear hW8
        obtain ⟨x0, x1, x2⟩ := cells_three HN8.out
        have HG := Lib.hid (show (W8.cell? ⟨w1.heap.size, 0, none⟩ = some (.slice Av (vers b).length cv) ∧ W8.cell? ⟨w1.heap.size, 1, none⟩ = some (.slice (some ad) len c2)) ∧ W8.cell? ⟨wr.heap.size, 1, none⟩ = some (.slice Af c.fr.length cf) ∧ wr.heap.size < W8.heap.size ∧ w1.heap.size < W8.heap.size from
          ⟨⟨(HB8.out.cell (p := ⟨w1.heap.size, 0, none⟩) hgw).trans HK.out.1, (HB8.out.cell (p := ⟨w1.heap.size, 1, none⟩) hgw).trans HK.out.2⟩, x1, (Array.getElem?_eq_some_iff.1 HN8.out).1, Nat.lt_of_lt_of_le hgw HB8.out.size⟩)
        clear x0 x1 x2 d0 d1 d2
        refine wp_mono (Q := onlyN (fun a' Y => ChG W8 (n' : Int) x (k : Int) (len : Int) w1.heap.size wr.heap.size (.slice (some ad) len c2) u10 (.agg #[.slice Av (vers b).length cv, .slice (some ad) len c2]) (.slice Af c.fr.length cf) F q (fun k => (#[.agg #[.slice A1 b.first.length c1, .slice (some ad) len c2], undef, undef, .pointer (some ⟨w.heap.size, 0, none⟩), undef, undef, undef, undef, undef, .int .i64 0, undef, undef, undef, .tuple #[.agg #[.slice Av (vers b).length cv, .slice (some ad) len c2], .int .i64 0], .agg #[.slice A1 b.first.length c1, .slice (some ad) len c2], .int .i64 (n' : Int), .int .i64 x, .tuple #[.agg #[.slice Av (vers b).length cv, .slice (some ad) len c2], .int .i64 0], .agg #[.slice Av (vers b).length cv, .slice (some ad) len c2], .int .i64 0, .int .i64 0, .bool false, undef, .pointer (some ⟨w1.heap.size, 1, none⟩)] : Array Value).getD k undef) (fun _ => true) a' Y)) ?_ ?_
        · refine wp_region_done (ChG W8 (n' : Int) x (k : Int) (len : Int) w1.heap.size wr.heap.size (.slice (some ad) len c2) u10 (.agg #[.slice Av (vers b).length cv, .slice (some ad) len c2]) (.slice Af c.fr.length cf) F q (fun k => (#[.agg #[.slice A1 b.first.length c1, .slice (some ad) len c2], undef, undef, .pointer (some ⟨w.heap.size, 0, none⟩), undef, undef, undef, undef, undef, .int .i64 0, undef, undef, undef, .tuple #[.agg #[.slice Av (vers b).length cv, .slice (some ad) len c2], .int .i64 0], .agg #[.slice A1 b.first.length c1, .slice (some ad) len c2], .int .i64 (n' : Int), .int .i64 x, .tuple #[.agg #[.slice Av (vers b).length cv, .slice (some ad) len c2], .int .i64 0], .agg #[.slice Av (vers b).length cv, .slice (some ad) len c2], .int .i64 0, .int .i64 0, .bool false, undef, .pointer (some ⟨w1.heap.size, 1, none⟩)] : Array Value).getD k undef)) (by kernel_rfl) (by kernel_rfl) ?_ ?_ ?_
          · exact ⟨rfl, rfl, rfl, rfl, rfl, rfl, rfl, rfl, rfl, rfl, rfl, rfl, rfl, rfl, rfl, rfl, rfl, rfl, rfl, rfl, rfl, rfl, rfl, rfl, rfl, rfl, rfl, rfl, rfl, rfl, (Below.refl _ _).drew, (fun h => nomatch h), (fun h => nomatch h), (fun h => nomatch h), (fun h => nomatch h), (fun h => nomatch h), (fun h => nomatch h), (fun h => nomatch h), (fun h => nomatch h), (fun h => nomatch h), (fun h => nomatch h)⟩
          · intro dn j o hi hd hD a Y hG
            obtain ⟨tm, ds⟩ := a
            obtain ⟨hsz, t0, t1, t2, t3, t4, t5, t6, t7, t8, t9, t10, t11, t12, t13, t14, t15, t16, t17, t18, t19, t20, t21, t22, t23, t24, t25, t26, t44, hds, bel, e0, e1, e2, e3, e4, e5, e6, e7, o6, o7⟩ := hG
            obtain ⟨fn, rfl⟩ := arr45 hsz
            have hj8 : j < 8 := by
              have := (Array.getElem?_eq_some_iff.1 hi).1
              simpa using this
            simp [Array.getD] at t0 t1 t2 t3 t4 t5 t6 t7 t8 t9 t10 t11 t12 t13 t14 t15 t16 t17 t18 t19 t20 t21 t22 t23 t24 t25 t26 t44
            rcases (show j = 0 ∨ j = 1 ∨ j = 2 ∨ j = 3 ∨ j = 4 ∨ j = 5 ∨ j = 6 ∨ j = 7 by omega) with rfl | rfl | rfl | rfl | rfl | rfl | rfl | rfl
            · obtain rfl := Option.some.inj hi
              refine wpOp_bare hi rfl ?_
              go_simp
              exact ⟨rfl, rfl, rfl, rfl, rfl, rfl, rfl, rfl, rfl, rfl, rfl, rfl, rfl, rfl, rfl, rfl, rfl, rfl, rfl, rfl, rfl, rfl, rfl, rfl, rfl, rfl, rfl, rfl, rfl, hds, bel, (fun _ => rfl), e1, e2, e3, e4, e5, e6, e7, o6, o7⟩
            · obtain rfl := Option.some.inj hi
              have d0 := e0 (hD ⟨0, .data⟩ (by simp) rfl)
              simp [Array.getD] at d0
              have cx := (bel.cell (p := ⟨wr.heap.size, 1, none⟩) HG.out.2.2.1).trans HG.out.2.1
              refine wpOp_bare hi rfl ?_
              go_simp
              exact ⟨rfl, rfl, rfl, rfl, rfl, rfl, rfl, rfl, rfl, rfl, rfl, rfl, rfl, rfl, rfl, rfl, rfl, rfl, rfl, rfl, rfl, rfl, rfl, rfl, rfl, rfl, rfl, rfl, rfl, hds, bel, (fun _ => rfl), (fun _ => rfl), e2, e3, e4, e5, e6, e7, o6, (fun h => ⟨rfl, (o7 h).2⟩)⟩
            · obtain rfl := Option.some.inj hi
              have c0 := (bel.cell (p := ⟨w1.heap.size, 0, none⟩) HG.out.2.2.2).trans HG.out.1.1
              have c1 := (bel.cell (p := ⟨w1.heap.size, 1, none⟩) HG.out.2.2.2).trans HG.out.1.2
              refine wpOp_bare hi rfl ?_
              go_simp
              exact ⟨rfl, rfl, rfl, rfl, rfl, rfl, rfl, rfl, rfl, rfl, rfl, rfl, rfl, rfl, rfl, rfl, rfl, rfl, rfl, rfl, rfl, rfl, rfl, rfl, rfl, rfl, rfl, rfl, rfl, hds, bel, e0, e1, (fun _ => rfl), e3, e4, e5, e6, e7, (fun h => ⟨rfl, (o6 h).2⟩), o7⟩
            · obtain rfl := Option.some.inj hi
              refine wpOp_bare hi rfl ?_
              go_simp
              exact ⟨rfl, rfl, rfl, rfl, rfl, rfl, rfl, rfl, rfl, rfl, rfl, rfl, rfl, rfl, rfl, rfl, rfl, rfl, rfl, rfl, rfl, rfl, rfl, rfl, rfl, rfl, rfl, rfl, rfl, hds, bel, e0, e1, e2, (fun _ => rfl), e4, e5, e6, e7, (fun h => ⟨(o6 h).1, rfl, (o6 h).2.2⟩), o7⟩
            · obtain rfl := Option.some.inj hi
              refine wpOp_bare hi rfl ?_
              go_simp
              exact ⟨rfl, rfl, rfl, rfl, rfl, rfl, rfl, rfl, rfl, rfl, rfl, rfl, rfl, rfl, rfl, rfl, rfl, rfl, rfl, rfl, rfl, rfl, rfl, rfl, rfl, rfl, rfl, rfl, rfl, hds, bel, e0, e1, e2, e3, (fun _ => rfl), e5, e6, e7, (fun h => ⟨(o6 h).1, (o6 h).2.1, rfl, (o6 h).2.2.2⟩), o7⟩
            · obtain rfl := Option.some.inj hi
              refine wpOp_bare hi rfl ?_
              go_simp
              exact ⟨rfl, rfl, rfl, rfl, rfl, rfl, rfl, rfl, rfl, rfl, rfl, rfl, rfl, rfl, rfl, rfl, rfl, rfl, rfl, rfl, rfl, rfl, rfl, rfl, rfl, rfl, rfl, rfl, rfl, hds, bel, e0, e1, e2, e3, e4, (fun _ => rfl), e6, e7, (fun h => ⟨(o6 h).1, (o6 h).2.1, (o6 h).2.2.1, rfl⟩), o7⟩
            · obtain rfl := Option.some.inj hi
              have y2 := hD ⟨2, .data⟩ (by simp) rfl
              have y3 := hD ⟨3, .data⟩ (by simp) rfl
              have y4 := hD ⟨4, .data⟩ (by simp) rfl
              have y5 := hD ⟨5, .data⟩ (by simp) rfl
              have d2 := e2 y2
              have d3 := e3 y3
              have d4 := e4 y4
              have d5 := e5 y5
              simp [Array.getD] at d2 d3 d4 d5
              have HC := Lib.hid (HMe.out Y bel)
              refine wpOp_bare hi rfl ?_
              go_simp
              (with_reducible refine HC.out.mono ?_)
              rintro e Y' ⟨⟨r, rfl, hr⟩, HB⟩
              exact ⟨rfl, rfl, rfl, rfl, rfl, rfl, rfl, rfl, rfl, rfl, rfl, rfl, rfl, rfl, rfl, rfl, rfl, rfl, rfl, rfl, rfl, rfl, rfl, rfl, rfl, rfl, rfl, rfl, rfl, hds, bel.trans (HB.mono bel.size), e0, e1, (fun _ => rfl), (fun _ => rfl), (fun _ => rfl), (fun _ => rfl), (fun _ => hr), (fun h => absurd (hd.symm.trans (o7 h).2) (by decide)), (fun _ => ⟨y2, y3, y4, y5⟩), (fun h => ⟨(o7 h).1, rfl⟩)⟩
            · obtain rfl := Option.some.inj hi
              have y1 := hD ⟨1, .data⟩ (by simp) rfl
              have y6 := hD ⟨6, .data⟩ (by simp) rfl
              have d1 := e1 y1
              simp [Array.getD] at d1
              obtain ⟨vv, ev⟩ : ∃ vv, fn 37 = vv := ⟨_, rfl⟩
              have h6 : InSl Y Y.heap.size vv F := by rw [← ev]; exact e6 y6
              have HC := Lib.hid (HHs.out Y vv bel h6)
              have H6 := Lib.hid h6
              clear h6
              refine wpOp_bare hi rfl ?_
              go_simp
              (with_reducible refine HC.out.mono ?_)
              rintro e Y' ⟨rfl, rfl⟩
              exact ⟨rfl, rfl, rfl, rfl, rfl, rfl, rfl, rfl, rfl, rfl, rfl, rfl, rfl, rfl, rfl, rfl, rfl, rfl, rfl, rfl, rfl, rfl, rfl, rfl, rfl, rfl, rfl, rfl, rfl, hds, bel, e0, (fun _ => rfl), e2, e3, e4, e5, (fun _ => H6.out), (fun _ => rfl), o6, (fun _ => ⟨y1, y6⟩)⟩
          · intro dn a Y hdn hG
            exact hG.all fun j hj => hdn j (by simpa using hj)
        · rintro e ⟨tm, ds⟩ Y h
          cases e with
          | normal =>
            obtain ⟨hsz, t0, t1, t2, t3, t4, t5, t6, t7, t8, t9, t10, t11, t12, t13, t14, t15, t16, t17, t18, t19, t20, t21, t22, t23, t24, t25, t26, t44, hds, bel, e0, e1, e2, e3, e4, e5, e6, e7, o6, o7⟩ := h
            obtain ⟨fn, rfl⟩ := arr45 hsz
            have d7' : fn 38 = .bool q := e7 rfl
            have hds' : ds = [] := hds
            subst hds'
            have HO2 := Lib.hid (HO1.out.step (HB8.out.trans (bel.mono HB8.out.size)))
            have t0' : fn 0 = .agg #[.slice A1 b.first.length c1, .slice (some ad) len c2] := t0
            have t1' : fn 1 = .int .i64 (n' : Int) := t1
            have t2' : fn 2 = .int .i64 x := t2
            have t3' : fn 3 = .pointer (some ⟨w.heap.size, 0, none⟩) := t3
            have t4' : fn 4 = undef := t4
            have t5' : fn 5 = undef := t5
            have t6' : fn 6 = .slice none 0 0 := t6
            have t7' : fn 7 = .int .i64 0 := t7
            have t8' : fn 8 = .pointer (some ⟨w1.heap.size, 0, none⟩) := t8
            have t9' : fn 9 = .int .i64 0 := t9
            have t10' : fn 10 = u10 := t10
            have t11' : fn 11 = .int .i64 (k : Int) := t11
            have t12' : fn 12 = .pointer (some ⟨wr.heap.size, 0, none⟩) := t12
            have t13' : fn 13 = .tuple #[.agg #[.slice Av (vers b).length cv, .slice (some ad) len c2], .int .i64 0] := t13
            have t14' : fn 14 = .agg #[.slice A1 b.first.length c1, .slice (some ad) len c2] := t14
            have t15' : fn 15 = .int .i64 (n' : Int) := t15
            have t16' : fn 16 = .int .i64 x := t16
            have t17' : fn 17 = .tuple #[.agg #[.slice Av (vers b).length cv, .slice (some ad) len c2], .int .i64 0] := t17
            have t18' : fn 18 = .agg #[.slice Av (vers b).length cv, .slice (some ad) len c2] := t18
            have t19' : fn 19 = .int .i64 0 := t19
            have t20' : fn 20 = .int .i64 0 := t20
            have t21' : fn 21 = .bool false := t21
            have t22' : fn 22 = undef := t22
            have t23' : fn 23 = .pointer (some ⟨w1.heap.size, 1, none⟩) := t23
            have t24' : fn 24 = .slice (some ad) len c2 := t24
            have t25' : fn 25 = .int .i64 (len : Int) := t25
            have t26' : fn 26 = .int .i64 (k : Int) := t26
            have t44' : fn 44 = undef := t44
            rw [t44', d7', t0', t1', t2', t3', t4', t5', t6', t7', t8', t9', t10', t11', t12', t13', t14', t15', t16', t17', t18', t19', t20', t21', t22', t23', t24', t25', t26']
            clear t44' t44 d7' t0' t0 t1' t1 t2' t2 t3' t3 t4' t4 t5' t5 t6' t6 t7' t7 t8' t8 t9' t9 t10' t10 t11' t11 t12' t12 t13' t13 t14' t14 t15' t15 t16' t16 t17' t17 t18' t18 t19' t19 t20' t20 t21' t21 t22' t22 t23' t23 t24' t24 t25' t25 t26' t26 hds e0 e1 e2 e3 e4 e5 e6 e7 o6 o7 bel hsz HO1 HB8 HN8 HMe HHs HG HK HFr HSx HIc HLm HB
            simp only [Exit.then]
            have hkS : len ≤ 1000 := by have := HLen.out; have := HS.out.2.1; omega
            cases q with
            | false =>
              have HE := Lib.hid (show chainT b.chs n' x (k + 1) = chainT b.chs n' x k from by rw [HX.out, HQ.out]; simp)
              clear HX HQ
              go_wp2_with fail
              go_roundw
              case rel => exact ⟨k + 1, by go_num, by omega, by rw [HE.out]; exact HO2.out⟩
              case measure => simp [intOf]; omega
            | true =>
              have HE := Lib.hid (show chainT b.chs n' x (k + 1) = chainT b.chs n' x k ++ [(k : Int)] from by rw [HX.out, HQ.out]; simp)
              clear HX HQ
              have HLn := Lib.hid (chainT_len b.chs n' x k)
              obtain ⟨pre, hpre⟩ : ∃ pre, chainT b.chs n' x k = pre := ⟨_, rfl⟩
              rw [hpre] at HO2 HE HLn
              clear hpre
              have hpl := HLn.out
              obtain ⟨i0, hi0, hz0, hz1, hz2⟩ := infoI
              have HZ := Lib.hid (show i0.size = 1 ∧ i0.bytes = 8 ∧ Tryz.prog.info? 3 = some i0 ∧ i0.zero = some (.int .i64 0) from ⟨hz1, hz2, hi0, hz0⟩)
              clear hz0 hz1 hz2 hi0
              have HO3 := Lib.hid ((HO2.out.own).alloc (.cells #[.int .i64 (k : Int)] 3))
              have HNw := Lib.hid (cell_one_new Y (.int .i64 (k : Int)) 3)
              have HBs := Lib.hid (show W.heap.size ≤ (Y.alloc (.cells #[.int .i64 (k : Int)] 3)).heap.size from by have := HO2.out.bound; simp; omega)
              go_wp2_with (at_builtin; refine wpList_append_own _ rfl _ _ 22 rfl W.heap.size 3 i0 (.int .i64 0) 1 8 Tryz.underlying22 HZ.out.2.2.1 HZ.out.2.2.2 HZ.out.1 HZ.out.2.1 rfl (by decide) u10 pre.length (intsV pre) rfl HO3.out ⟨Y.heap.size, 0, none⟩ 1 1 [.int .i64 (k : Int)] rfl rfl HNw.out (by intro u hu; simp at hu; subst hu; rfl) (by unfold maxLen; omega) (by omega) HBs.out ?_; intro v4 w4 hown4 hg4 hnn4)
              have HO4 := Lib.hid (show OwN W v4 (pre ++ [(k : Int)]) w4 from HO2.out.grown (M := [(k : Int)]) (below_new _) hg4 hown4)
              clear hown4 hg4 hnn4
              go_wp2_with fail
              go_roundw
              case rel => exact ⟨k + 1, by go_num, by omega, by rw [HE.out]; exact HO4.out⟩
              case measure => simp [intOf]; omega
          | _ => exact h.elim
      · have hk : k = len := by omega
        subst hk
        have HE := Lib.hid (show oR = chainT b.chs n' x k from HMl.out)
        go_wp2_with fail
        go_ret2
        exact OutN.mk (by rw [HE.out]; exact HO1.out.sl) (HW.out.1.trans (HO1.out.bel.mono HW.out.1.size))
  · rw [if_neg he] at HM
    have hM := HM.out
    injection hM with hM1 hM2
    subst hM1; subst hM2
    clear HM
    obtain rfl := hu1 he
    have HB2 := Lib.hid (HB.out.trans ((below_new (w := w1) (.cells #[.slice none 0 0, .slice none 0 0] 55)).mono HB.out.size))
    unfold nilH at *
    clear hu0 hu1 HZ
    go_wp2_with fail
    go_ret2
    exact OutN.nil HB2.out
end Go.Proofs.YtplpogonkfnafaaGreat
namespace Go.Proofs.YtplpogonkfnafaaGreat
open Go.RowKit Go.Nm Go.Maps

theorem keyI : Keyed Tryz.prog 3 := int_keyed Tryz.underlying3
theorem zeroI (w : World) : (zeroValue 3).run Tryz.prog w = .ok (.int .i64 0) w := by kernel_rfl
/-- the map in block mb reads as f -/
structure MI (W : World) (mb n : Nat) (f : Int → Int) (X : World) : Prop where
  bel : Below W.heap.size W X
  new : W.heap.size ≤ mb
  map : ∃ D : DataW Unit, X.ownsMap Tryz.prog 3 (plainElem Tryz.prog 3) mb n D ∧ ∀ k, D.atKey (.int .i64 k) (.lit (.int .i64 0)) = .lit (.int .i64 (f k))
  wf : ∀ k, (Lit.int .i64 (f k)).wf = true
/-- .. it has just these keys, each at 1 -/
structure MS (W : World) (mb : Nat) (L : List Int) (X : World) : Prop where
  bel : Below W.heap.size W X
  new : W.heap.size ≤ mb
  map : ∃ D : DataW Unit, X.ownsMap Tryz.prog 3 (plainElem Tryz.prog 3) mb L.length D ∧ (∀ k, D.atKey (.int .i64 k) (.lit (.int .i64 0)) = .lit (.int .i64 (if k ∈ L then 1 else 0))) ∧ (∀ k, has D (.int .i64 k) = decide (k ∈ L)) ∧ size D = L.length
theorem ne_lit {a b : Int} (h : a ≠ b) : (Lit.int .i64 a) ≠ .int .i64 b := fun e => h (by injection e)
theorem isK (k : Int) : WideAt.IsKeyLit (.int .i64 k) := trivial
theorem MS.made (W X : World) (hb : Below W.heap.size W X) : MS W X.heap.size [] (X.alloc (.map #[] 0)) :=
  ⟨hb.alloc hb.size _, hb.size, .map [], World.ownsMap_made _ _ _ _, fun _ => rfl, fun _ => rfl, rfl⟩
theorem MS.mi {W X : World} {mb : Nat} {L : List Int} (h : MS W mb L X) : MI W mb L.length (fun k => if k ∈ L then 1 else 0) X := by
  obtain ⟨hb, hn, D, h1, h2, _⟩ := h
  exact ⟨hb, hn, ⟨D, h1, h2⟩, fun k => by split <;> decide⟩
theorem MI.mono {W X : World} {mb n n' : Nat} {f : Int → Int} (h : MI W mb n f X) (hn : n ≤ n') : MI W mb n' f X := by
  obtain ⟨hb, hw, ⟨D, h1, h2⟩, h3⟩ := h
  exact ⟨hb, hw, ⟨D, h1.mono hn, h2⟩, h3⟩
theorem MI.alloc {W X : World} {mb n : Nat} {f : Int → Int} (h : MI W mb n f X) (o : Obj) : MI W mb n f (X.alloc o) := by
  obtain ⟨hb, hw, ⟨D, h1, h2⟩, h3⟩ := h
  exact ⟨hb.alloc hb.size _, hw, ⟨D, h1.alloc o, h2⟩, h3⟩
theorem MI.drew {W X : World} {mb n : Nat} {f : Int → Int} (h : MI W mb n f X) : MI W mb n f X.drew := by
  obtain ⟨hb, hw, ⟨D, h1, h2⟩, h3⟩ := h
  exact ⟨hb.drew, hw, ⟨D, h1.drew, h2⟩, h3⟩
section
variable {ops : Array Oper} {rest : List Oper} {o : Oper} {a : Act} {Q : Exit → Act → World → Prop} {W w : World} {mb n : Nat} {f : Int → Int} {L : List Int}
theorem wpList_lookup_mi (hg : o.guard = none) (m x : Operand) (hop : o.op = Op.lookup 67 m x false) (hM : MI W mb n f w) (hm : a.eval m = .map (some mb)) (z : Int) (hx : a.eval x = .int .i64 z) (hz : (Lit.int .i64 z).wf = true)
    (hK : wpList Tryz.prog ops Q rest (a.put o.dst (.int .i64 (f z))) w) : wpList Tryz.prog ops Q (o :: rest) a w := by
  obtain ⟨_, _, ⟨D, h1, h2⟩, _⟩ := hM
  refine wpList_lookup_own_int w hg m x 67 hop 3 3 .i64 keyI Tryz.underlying67 Tryz.underlying3 (zeroI _) mb n D hm h1 _ _ hx (keyOf_int_mk Tryz.underlying3 hz) ?_
  intro c hat _
  have := (h2 z).symm.trans hat
  injection this with h; injection h with _ h
  rw [← h]; exact hK
theorem wpList_put_mi (hg : o.guard = none) (m x v : Operand) (hop : o.op = Op.mapUpdate 67 m x v) (hM : MI W mb n f w) (hn : n < maxLen) (hm : a.eval m = .map (some mb)) (z : Int) (hx : a.eval x = .int .i64 z) (hz : (Lit.int .i64 z).wf = true) (c : Int) (hv : a.eval v = .int .i64 c) (hc : (Lit.int .i64 c).wf = true)
    (hK : ∀ w', MI W mb (n + 1) (fun k => if k = z then c else f k) w' → w.grownBy w' (some mb) → wpList Tryz.prog ops Q rest (a.put o.dst undef) w') : wpList Tryz.prog ops Q (o :: rest) a w := by
  obtain ⟨hb, hw, ⟨D, h1, h2⟩, h3⟩ := hM
  refine wpList_mapUpdate_in w hg m x v 67 hop 3 3 keyI Tryz.underlying67 _ mb n D hm h1 hn _ _ _ hx hv (keyOf_int_mk Tryz.underlying3 hz) _ [] (plainElem_int Tryz.underlying3 hc) ?_
  intro w' h4 h5
  refine hK w' ⟨hb.grown h5.grown hb.size (fun k e => by cases e; exact hw), hw, ⟨_, h4, fun k => ?_⟩, fun k => by (try dsimp only); split; exact hc; exact h3 k⟩ h5.grown
  by_cases hk : k = z
  · subst hk; rw [atKey_put_same h1.isMap (isK _), if_pos rfl]
  · rw [atKey_put_other (ne_lit hk), h2, if_neg hk]
theorem wpList_del_mi (hg : o.guard = none) (m x : Operand) (hop : o.op = Op.call { callee := Callee.builtin Builtin.delete, args := #[m, x], argTypes := #[67, 3] }) (hM : MI W mb n f w) (hm : a.eval m = .map (some mb)) (z : Int) (hx : a.eval x = .int .i64 z) (hz : (Lit.int .i64 z).wf = true)
    (hK : ∀ w', MI W mb n (fun k => if k = z then 0 else f k) w' → w.grownBy w' (some mb) → wpList Tryz.prog ops Q rest (a.put o.dst (.tuple #[])) w') : wpList Tryz.prog ops Q (o :: rest) a w := by
  obtain ⟨hb, hw, ⟨D, h1, h2⟩, h3⟩ := hM
  refine wpList_delete_own w hg m x 67 3 hop 3 keyI Tryz.underlying67 _ mb n D hm h1 _ _ hx (keyOf_int_mk Tryz.underlying3 hz) ?_
  intro w' h4 h5
  refine hK w' ⟨hb.grown h5.grown hb.size (fun k e => by cases e; exact hw), hw, ⟨_, h4, fun k => ?_⟩, fun k => by (try dsimp only); split; decide; exact h3 k⟩ h5.grown
  by_cases hk : k = z
  · subst hk; rw [atKey_del_same, if_pos rfl]
  · rw [atKey_del_other (ne_lit hk), h2, if_neg hk]
theorem wpList_put_ms (hg : o.guard = none) (m x v : Operand) (hop : o.op = Op.mapUpdate 67 m x v) (hM : MS W mb L w) (hn : L.length < maxLen) (hm : a.eval m = .map (some mb)) (z : Int) (hx : a.eval x = .int .i64 z) (hz : (Lit.int .i64 z).wf = true) (hzL : z ∉ L) (hv : a.eval v = .int .i64 1)
    (hK : ∀ w', MS W mb (L ++ [z]) w' → w.grownBy w' (some mb) → wpList Tryz.prog ops Q rest (a.put o.dst undef) w') : wpList Tryz.prog ops Q (o :: rest) a w := by
  obtain ⟨hb, hw, D, h1, h2, h3, h6⟩ := hM
  refine wpList_mapUpdate_in w hg m x v 67 hop 3 3 keyI Tryz.underlying67 _ mb L.length D hm h1 hn _ _ _ hx hv (keyOf_int_mk Tryz.underlying3 hz) _ [] (plainElem_int Tryz.underlying3 (by decide)) ?_
  intro w' h4 h5
  refine hK w' ⟨hb.grown h5.grown hb.size (fun k e => by cases e; exact hw), hw, _, by rw [List.length_append]; exact h4, fun k => ?_, fun k => ?_, ?_⟩ h5.grown
  · by_cases hk : k = z
    · subst hk; rw [atKey_put_same h1.isMap (isK _), if_pos (by simp)]
    · rw [atKey_put_other (ne_lit hk), h2]; simp [hk]
  · by_cases hk : k = z
    · subst hk; rw [has_put_same h1.isMap (isK _)]; simp
    · rw [has_put_other (ne_lit hk), h3]; simp [hk]
  · rw [size_put (h1.tidy keyI), h3, h6]; simp [hzL]
theorem wpList_len_ms (hg : o.guard = none) (m : Operand) (hop : o.op = Op.call { callee := Callee.builtin Builtin.len, args := #[m], argTypes := #[67] }) (hM : MS W mb L w) (hm : a.eval m = .map (some mb)) (nn : Nat) (hl : L.length = nn)
    (hK : wpList Tryz.prog ops Q rest (a.put o.dst (.int .i64 nn)) w) : wpList Tryz.prog ops Q (o :: rest) a w := by
  obtain ⟨hb, hw, D, h1, h2, h3, h6⟩ := hM
  refine wpList_len_own w hg m 67 hop 3 3 Tryz.underlying67 _ mb _ D hm h1 ?_
  rw [h6, hl]; exact hK
end
def takeS (p : (Int → Int) × Int) (x : Int) : (Int → Int) × Int := (fun k => if k = x then 0 else p.1 k, wrap64 (p.2 + p.1 x))
def takeF (f : Int → Int) (l : List Int) : (Int → Int) × Int := l.foldl takeS (f, 0)
def putS (c : Int) (f : Int → Int) (x : Int) : Int → Int := fun k => if k = x then c else f k
def putF (f : Int → Int) (c : Int) (l : List Int) : Int → Int := l.foldl (putS c) f
def chS (p : (Int → Int) × Int) (c : Ch) : (Int → Int) × Int := (putF (takeF p.1 c.fr).1 (takeF p.1 c.fr).2 c.to, wrap64 (p.2 + wrap64 ((takeF p.1 c.fr).2 * ((c.to.length : Int) - 1))))
def cntF : List Ch → (Int → Int) × Int → Int
  | [], p => p.2
  | c :: r, p => if p.2 > 2048 then p.2 else cntF r (chS p c)
def cnt (b : Bk) : Int := cntF b.chs (fun k => if k ∈ b.first then 1 else 0, b.first.length)
theorem take_next {l : List Int} {j : Nat} {x : Int} (h : l[j]? = some x) : l.take (j + 1) = l.take j ++ [x] := by
  rw [List.take_add_one, h]; rfl
theorem takeF_next {f : Int → Int} {l : List Int} {j : Nat} {x : Int} (h : l[j]? = some x) : takeF f (l.take (j + 1)) = takeS (takeF f (l.take j)) x := by
  unfold takeF; rw [take_next h, List.foldl_append]; rfl
theorem putF_next {f : Int → Int} {c : Int} {l : List Int} {j : Nat} {x : Int} (h : l[j]? = some x) : putF f c (l.take (j + 1)) = putS c (putF f c (l.take j)) x := by
  unfold putF; rw [take_next h, List.foldl_append]; rfl
theorem cntF_next {l : List Ch} {k : Nat} {c : Ch} (h : l[k]? = some c) (p : (Int → Int) × Int) : cntF (l.drop k) p = if p.2 > 2048 then p.2 else cntF (l.drop (k + 1)) (chS p c) := by
  obtain ⟨hk, rfl⟩ := List.getElem?_eq_some_iff.1 h
  rw [List.drop_eq_getElem_cons hk]; rfl
end Go.Proofs.YtplpogonkfnafaaGreat
namespace Go.Proofs.YtplpogonkfnafaaGreat
open Go.RowKit Go.Nm Go.Maps

def WfB (b : Bk) : Prop := (∀ x ∈ b.first, 1 ≤ x ∧ x ≤ 65535) ∧ ∀ c ∈ b.chs, (∀ x ∈ c.fr, 1 ≤ x ∧ x ≤ 65535) ∧ ∀ x ∈ c.to, 1 ≤ x ∧ x ≤ 65535
theorem wf_nm {x : Int} (h : 1 ≤ x ∧ x ≤ 65535) : (Lit.int .i64 x).wf = true := WalkArith.wf_i64 (by omega)
theorem add_zero' (a : Addr) : a.add 0 = a := by simp [Addr.add]
theorem grown_blk {X Y : World} {mb i : Nat} {o : Obj} (hg : X.grownBy Y (some mb)) (h : X.heap[i]? = some o) (hne : i ≠ mb) : Y.heap[i]? = some o :=
  (hg.block i (Array.getElem?_eq_some_iff.1 h).1 (fun e => hne (by injection e))).trans h
theorem takeF_wf : ∀ (l : List Int) (p : (Int → Int) × Int), (Lit.int .i64 p.2).wf = true → (Lit.int .i64 (l.foldl takeS p).2).wf = true
  | [], _, h => h
  | x :: l, p, _ => takeF_wf l (takeS p x) (wrap64_wf _)
theorem nm_new {L : List Int} {k : Nat} {x : Int} (hi : Inc L) (h : L[k]? = some x) : x ∉ L.take k := by
  intro hm
  obtain ⟨j, hj, e⟩ := List.getElem_of_mem hm
  have hj' : j < k := by simp at hj; omega
  have hjL : L[j]? = some x := by rw [← e]; simp
  have hk := (List.getElem?_eq_some_iff.1 h).1
  have h1 : L[j]'(by omega) = x := (List.getElem?_eq_some_iff.1 hjL).2
  have h2 : L[k] = x := (List.getElem?_eq_some_iff.1 h).2
  have := (List.pairwise_iff_getElem.1 hi) j k (by omega) hk hj'
  omega
set_option maxRecDepth 100000 in
set_option maxHeartbeats 16000000 in
theorem count_any (v vc : Value) (b : Bk) (w : World) (hv : HsV w v b vc) (hs : Sm b) (h0 : (vers b)[0]? = some b.first) (hi : Inc b.first) (hw : WfB b) :
    Calls Tryz.prog 65 #[v] w fun e w' => e = .returned (.int .i64 (cnt b)) ∧ Below w.heap.size w w' := by
  obtain ⟨vs, rfl, h1, h2⟩ := hv
  obtain ⟨Av, cv, rfl⟩ := h1.form
  obtain ⟨A2, c2, rfl⟩ := h2.form
  have hvl : 0 < (vers b).length := (List.getElem?_eq_some_iff.1 h0).1
  obtain ⟨ad0, u0, L0, rfl, hbd0, hL0, hc0, hin0⟩ := h1.at_ hvl
  obtain rfl : L0 = b.first := by rw [h0] at hL0; injection hL0 with e; exact e.symm
  obtain ⟨A1, c1, rfl, _⟩ := hin0.form
  have hb0 := below_new (w := w) (.cells #[.slice (some ad0) (vers b).length cv, .slice A2 b.chs.length c2] 55)
  have HB0 := Lib.hid hb0
  have hN0 := World.alloc_heap_new w (.cells #[.slice (some ad0) (vers b).length cv, .slice A2 b.chs.length c2] 55)
  have HMS0 := Lib.hid (MS.made w _ hb0)
  obtain ⟨W2, hW2⟩ : ∃ W2, (w.alloc (.cells #[.slice (some ad0) (vers b).length cv, .slice A2 b.chs.length c2] 55)).alloc (.map #[] 0) = W2 := ⟨_, rfl⟩
  have HBox := Lib.hid (show W2.heap[w.heap.size]? = some (.cells #[.slice (some ad0) (vers b).length cv, .slice A2 b.chs.length c2] 55) from by rw [← hW2]; exact ((below_new _).block _ (by simp)).trans hN0)
  have HF := Lib.hid (And.intro hin0 hi)
  have HCh := Lib.hid (And.intro h2 hs)
  have HWf := Lib.hid hw
  rw [World.size_alloc] at HMS0
  rw [hW2] at HMS0
  obtain ⟨k0, k1⟩ := cells_two HBox.out
  have hc0' : W2.cell? ad0 = some (.slice A1 b.first.length c1) := (HMS0.out.bel.cell hbd0).trans (by rw [add_zero'] at hc0; exact hc0)
  obtain ⟨R, hR⟩ : ∃ R, cnt b = R := ⟨_, rfl⟩
  rw [hR]
  have HR := Lib.hid hR
  clear h1 h2 hs hb0 hN0 hin0 hi hw hR hc0 h0 hL0
  generalize hlf : b.first.length = nf at *
  generalize hlc : b.chs.length = len at *
  generalize hvn : (vers b).length = nv at *
  have HLf := Lib.hid hlf
  have HLc := Lib.hid hlc
  clear hlf hlc hvn
  have hnf : nf ≤ 1000 := by have := HLf.out; have := HCh.out.2.1; omega
  have hnc : len ≤ 1000 := by have := HLc.out; have := HCh.out.2.2.1; omega
  have hmm := @run_makeMap Tryz.prog
  go_enter Tryz.func65, Tryz.ntmps65
  go_wp2_with fail
  go_loopw [20] (fun iv wr => ∃ k : Nat, iv = .int .i64 (k : Int) ∧ k ≤ nf ∧ MS w (w.heap.size + 1) (b.first.take k) wr ∧ wr.heap[w.heap.size]? = some (.cells #[.slice (some ad0) nv cv, .slice A2 len c2] 55)) (fun iv _ => nf - (intOf iv).toNat)
  case atStart => exact ⟨0, rfl, by omega, by simpa using HMS0.out, HBox.out⟩
  case round =>
    obtain ⟨k, rfl, hkn, hM, hbx⟩ := hrel
    have HM := Lib.hid hM
    have HBx := Lib.hid hbx
    clear hM hbx
    by_cases hlt : k < nf
    · obtain ⟨x, ad, hx, rfl, hbd, hcx⟩ := ((show InA w w.heap.size A1 b.first from by obtain ⟨_, _, e, _, _, h⟩ := HF.out.1; cases e; exact h).below HM.out.bel).at_ HLf.out hlt
      have HX := Lib.hid (And.intro hx (And.intro (wf_nm (HWf.out.1 x (List.mem_of_getElem? hx))) (nm_new HF.out.2 hx)))
      have HLt := Lib.hid (show (b.first.take k).length < maxLen from by have := HLf.out; have := HCh.out.2.1; unfold maxLen; simp; omega)
      clear hx
      go_wp2_with (at_mapUpdate; refine wpList_put_ms rfl _ _ _ rfl HM.out HLt.out rfl x rfl HX.out.2.1 HX.out.2.2 rfl ?_; intro w3 hm3 hg3)
      have HM3 := Lib.hid (show MS w (w.heap.size + 1) (b.first.take (k + 1)) w3 ∧ w3.heap[w.heap.size]? = some (.cells #[.slice (some ad0) nv cv, .slice A2 len c2] 55) from ⟨by rw [take_next HX.out.1]; exact hm3, grown_blk hg3 HBx.out (by omega)⟩)
      clear hm3 hg3
      go_wp2_with fail
      go_roundw
      case rel => exact ⟨k + 1, by go_num, by omega, HM3.out.1, HM3.out.2⟩
      case measure => simp [intOf]; omega
    · obtain rfl : k = nf := by omega
      have HM2 := Lib.hid (show MS w (w.heap.size + 1) b.first wr from by have h := HM.out; rw [List.take_of_length_le (by have := HLf.out; omega)] at h; exact h)
      clear HM
      obtain ⟨k2, k3⟩ := cells_two HBx.out
      go_wp2_with (at_len; refine wpList_len_ms rfl _ rfl HM2.out rfl k HLf.out ?_)
      have HMI := Lib.hid HM2.out.mi
      have HR1 := Lib.hid (show cntF (b.chs.drop 0) (fun j => if j ∈ b.first then 1 else 0, (k : Int)) = R from by have h := HR.out; unfold cnt at h; rw [HLf.out] at h; exact h)
      have HN1 := Lib.hid (show b.first.length ≤ 1000 + 1000 * 0 from by have := HLf.out; omega)
      clear HM2 HR HBx k0 k1 k2 k3 hc0' HMS0 HBox hlt
      generalize hF0 : (fun j : Int => if j ∈ b.first then (1 : Int) else 0) = f0 at *
      clear hF0
      go_loopw [6, 32] (fun tv iv wq => ∃ (q n : Nat) (t : Int) (f : Int → Int), iv = .int .i64 (q : Int) ∧ q ≤ len ∧ tv = .int .i64 t ∧ MI w (w.heap.size + 1) n f wq ∧ n ≤ 1000 + 1000 * q ∧ cntF (b.chs.drop q) (f, t) = R) (fun _ iv _ => len - (intOf iv).toNat)
      case atStart => exact ⟨0, _, _, _, rfl, by omega, rfl, HMI.out, HN1.out, HR1.out⟩
      case round =>
        obtain ⟨q, n, t, f, rfl, hqn, rfl, hM, hn, hr⟩ := hrel
        have HM := Lib.hid hM
        have HR2 := Lib.hid hr
        clear hM hr HMI HR1 HN1
        by_cases hlt : q < len
        · obtain ⟨c, ad, vf, vt, hc, rfl, hbd, d0, d1, d2, hf, ht⟩ := (HCh.out.1.below HM.out.bel).at_ hlt
          obtain ⟨Af, cf, rfl, _⟩ := hf.form
          obtain ⟨At, ct, rfl, _⟩ := ht.form
          have HNx := Lib.hid (cntF_next hc (f, t))
          have HSx := Lib.hid (HCh.out.2.2.2 c (List.mem_of_getElem? hc))
          have HWx := Lib.hid (HWf.out.2 c (List.mem_of_getElem? hc))
          have HFr := Lib.hid (show InA wr w.heap.size Af c.fr from by obtain ⟨_, _, e, _, _, h⟩ := hf; cases e; exact h)
          have HTo := Lib.hid (show InA wr w.heap.size At c.to from by obtain ⟨_, _, e, _, _, h⟩ := ht; cases e; exact h)
          clear hf ht hc hbd
          have hgt : 2048 < t ∨ ¬ 2048 < t := by omega
          rcases hgt with hgt | hgt
          · have HE := Lib.hid (show R = t from by rw [← HR2.out, HNx.out, if_pos hgt])
            have HB2 := Lib.hid (HM.out.bel.alloc HM.out.bel.size (.cells #[.int .i64 c.yr, .slice Af c.fr.length cf, .slice At c.to.length ct] 52))
            clear HNx HR2 HM
            go_wp2_with fail
            go_ret
            exact ⟨by rw [HE.out]; rfl, HB2.out⟩
          · have HR3 := Lib.hid (show cntF (b.chs.drop (q + 1)) (chS (f, t) c) = R from by rw [← HR2.out, HNx.out, if_neg hgt])
            have HN8 := Lib.hid (World.alloc_heap_new wr (.cells #[.int .i64 c.yr, .slice Af c.fr.length cf, .slice At c.to.length ct] 52))
            have HM8 := Lib.hid (HM.out.alloc (.cells #[.int .i64 c.yr, .slice Af c.fr.length cf, .slice At c.to.length ct] 52))
            have hmb : w.heap.size + 1 < wr.heap.size := by obtain ⟨_, h, _⟩ := HM.out.map; exact h.lt
            have HFr8 := Lib.hid ((HFr.out.below (((below_new (.cells #[.int .i64 c.yr, .slice Af c.fr.length cf, .slice At c.to.length ct] 52))).mono HM.out.bel.size)))
            have HTo8 := Lib.hid (HTo.out.below (((below_new (.cells #[.int .i64 c.yr, .slice Af c.fr.length cf, .slice At c.to.length ct] 52))).mono HM.out.bel.size))
            clear HNx HR2 HFr HTo
            generalize hlf2 : c.fr.length = nfr at *
            generalize hlt2 : c.to.length = nto at *
            have HL2 := Lib.hid (And.intro hlf2 hlt2)
            clear hlf2 hlt2 HM
            obtain ⟨W8, hW8⟩ : ∃ W8, wr.alloc (.cells #[.int .i64 c.yr, .slice Af nfr cf, .slice At nto ct] 52) = W8 := ⟨_, rfl⟩
            rw [hW8] at HN8 HM8 HFr8 HTo8
            obtain ⟨x0, x1, x2⟩ := cells_three HN8.out
            go_wp2_with fail
            clear hW8 d0 d1 d2
            have hne8 : wr.heap.size ≠ w.heap.size + 1 := by omega
            have hg8 : wr.heap.size < W8.heap.size := (Array.getElem?_eq_some_iff.1 HN8.out).1
            generalize wr.heap.size = g8 at *
            have hnfr : nfr ≤ 1000 := by have := HL2.out; have := HSx.out; omega
            have hnto : nto ≤ 1000 := by have := HL2.out; have := HSx.out; omega
            go_loopw [9, 41] (fun gv iv wq => ∃ j : Nat, iv = .int .i64 (j : Int) ∧ j ≤ nfr ∧ gv = .int .i64 (takeF f (c.fr.take j)).2 ∧ MI w (w.heap.size + 1) n (takeF f (c.fr.take j)).1 wq ∧ Below w.heap.size W8 wq ∧ wq.heap[g8]? = some (.cells #[.int .i64 c.yr, .slice Af nfr cf, .slice At nto ct] 52)) (fun _ iv _ => nfr - (intOf iv).toNat)
            case atStart => exact ⟨0, rfl, by omega, rfl, HM8.out, Below.refl _ _, HN8.out⟩
            case round =>
              obtain ⟨j, rfl, hjn, rfl, hM, hb8, hcl⟩ := hrel
              have HMj := Lib.hid hM
              have HBj := Lib.hid (And.intro hb8 hcl)
              clear hM hb8 hcl
              by_cases hlt3 : j < nfr
              · obtain ⟨x, ad3, hx, rfl, hbd3, hcx⟩ := (HFr8.out.below HBj.out.1).at_ HL2.out.1 hlt3
                have HX := Lib.hid (And.intro (takeF_next (f := f) hx) (wf_nm (HWx.out.1 x (List.mem_of_getElem? hx))))
                clear hx hbd3
                generalize takeF f (c.fr.take j) = p at *
                obtain ⟨pf, pg⟩ := p
                dsimp only
                go_wp2_with (first | (at_lookup; refine wpList_lookup_mi rfl _ _ rfl HMj.out rfl x rfl HX.out.2 ?_) | (at_delete; refine wpList_del_mi rfl _ _ rfl HMj.out rfl x rfl HX.out.2 ?_; intro w4 hm4 hg4))
                have HM4 := Lib.hid (show MI w (w.heap.size + 1) n (takeF f (c.fr.take (j + 1))).1 w4 ∧ Below w.heap.size W8 w4 ∧ w4.heap[g8]? = some (.cells #[.int .i64 c.yr, .slice (some ad3) nfr cf, .slice At nto ct] 52) from
                  ⟨by rw [HX.out.1]; exact hm4, HBj.out.1.grown hg4 HMj.out.bel.size (fun k e => by cases e; omega), grown_blk hg4 HBj.out.2 hne8⟩)
                have HE4 := Lib.hid (show (takeF f (c.fr.take (j + 1))).2 = wrap64 (pg + pf x) from by rw [HX.out.1]; rfl)
                clear hm4 hg4
                go_wp2_with fail
                go_roundw
                case rel => exact ⟨j + 1, by go_num, by omega, by rw [HE4.out], HM4.out.1, HM4.out.2.1, HM4.out.2.2⟩
                case measure => simp [intOf]; omega
              · obtain rfl : j = nfr := by omega
                have HMf := Lib.hid (show takeF f (c.fr.take j) = takeF f c.fr from by rw [List.take_of_length_le (by have := HL2.out.1; omega)])
                obtain ⟨p, hp⟩ : ∃ p, takeF f c.fr = p := ⟨_, rfl⟩
                have HP := Lib.hid hp
                rw [HMf.out, hp] at HMj ⊢
                obtain ⟨pf, pg⟩ := p
                clear hp HMf HFr8 HM8 HN8
                dsimp only at HMj ⊢
                have hpg : (Lit.int .i64 pg).wf = true := by have h := takeF_wf c.fr (f, 0) (show (Lit.int .i64 0).wf = true by decide); rw [show c.fr.foldl takeS (f, 0) = takeF f c.fr from rfl, HP.out] at h; exact h
                obtain ⟨y0, y1, y2⟩ := cells_three HBj.out.2
                go_wp2_with fail
                have HPg := Lib.hid hpg
                have HBk := Lib.hid HBj.out
                have HMk := Lib.hid HMj.out
                clear hpg HBj HMj y0 y1 y2 x0 x1 x2
                go_loopw [56] (fun iv wt => ∃ i : Nat, iv = .int .i64 (i : Int) ∧ i ≤ nto ∧ MI w (w.heap.size + 1) (n + i) (putF pf pg (c.to.take i)) wt ∧ Below w.heap.size W8 wt ∧ wt.heap[g8]? = some (.cells #[.int .i64 c.yr, .slice Af j cf, .slice At nto ct] 52)) (fun iv _ => nto - (intOf iv).toNat)
                case atStart => exact ⟨0, rfl, by omega, HMk.out, HBk.out.1, HBk.out.2⟩
                case round =>
                  obtain ⟨i, rfl, hin, hM, hb8, hcl⟩ := hrel
                  have HMi := Lib.hid hM
                  have HBi := Lib.hid (And.intro hb8 hcl)
                  clear hM hb8 hcl HMk HBk
                  by_cases hlt4 : i < nto
                  · obtain ⟨x, ad4, hx, rfl, hbd4, hcx⟩ := (HTo8.out.below HBi.out.1).at_ HL2.out.2 hlt4
                    have HX := Lib.hid (And.intro (putF_next (f := pf) (c := pg) hx) (wf_nm (HWx.out.2 x (List.mem_of_getElem? hx))))
                    have hnm : n + i < maxLen := by unfold maxLen; omega
                    clear hx hbd4
                    go_wp2_with (at_mapUpdate; refine wpList_put_mi rfl _ _ _ rfl HMi.out hnm rfl x rfl HX.out.2 pg rfl HPg.out ?_; intro w4 hm4 hg4)
                    have HM4 := Lib.hid (show MI w (w.heap.size + 1) (n + i + 1) (putF pf pg (c.to.take (i + 1))) w4 ∧ Below w.heap.size W8 w4 ∧ w4.heap[g8]? = some (.cells #[.int .i64 c.yr, .slice Af j cf, .slice (some ad4) nto ct] 52) from
                      ⟨by rw [HX.out.1]; exact hm4, HBi.out.1.grown hg4 HMi.out.bel.size (fun k e => by cases e; omega), grown_blk hg4 HBi.out.2 hne8⟩)
                    clear hm4 hg4
                    go_wp2_with fail
                    go_roundw
                    case rel => exact ⟨i + 1, by go_num, by omega, HM4.out.1, HM4.out.2.1, HM4.out.2.2⟩
                    case measure => simp [intOf]; omega
                  · obtain rfl : i = nto := by omega
                    have HM5 := Lib.hid (show MI w (w.heap.size + 1) (n + i) (putF pf pg c.to) wr from by have h := HMi.out; rw [List.take_of_length_le (by have := HL2.out.2; omega)] at h; exact h)
                    have HS5 := Lib.hid (show chS (f, t) c = (putF pf pg c.to, wrap64 (t + wrap64 (pg * ((i : Int) - 1)))) from by unfold chS; dsimp only; rw [HP.out, HL2.out.2])
                    obtain ⟨y0, y1, y2⟩ := cells_three HBi.out.2
                    clear HMi HBi HTo8
                    go_wp2_with fail
                    go_roundw
                    case rel => exact ⟨q + 1, n + i, _, _, by go_num, by omega, rfl, HM5.out, by omega, by rw [← HS5.out]; exact HR3.out⟩
                    case measure => simp [intOf]; omega
        · obtain rfl : q = len := by omega
          have HE := Lib.hid (show R = t from by
            have h := HR2.out
            rw [List.drop_eq_nil_of_le (by have := HLc.out; omega)] at h
            exact h.symm)
          have HB2 := Lib.hid HM.out.bel
          clear HR2 HM
          go_wp2_with fail
          go_ret
          exact ⟨by rw [HE.out]; rfl, HB2.out⟩
def rich (b : Bk) : Bool := decide (2048 < cnt b)
set_option maxRecDepth 100000 in
set_option maxHeartbeats 4000000 in
theorem rich_any (v vc : Value) (b : Bk) (w : World) (hv : HsV w v b vc) (hs : Sm b) (h0 : (vers b)[0]? = some b.first) (hi : Inc b.first) (hw : WfB b) :
    Calls Tryz.prog 38 #[v] w fun e w' => e = .returned (.bool (rich b)) ∧ Below w.heap.size w w' := by
  have hv0 := hv
  obtain ⟨vs, rfl, h1, h2⟩ := hv
  obtain ⟨Av, cv, rfl⟩ := h1.form
  obtain ⟨A2, c2, rfl⟩ := h2.form
  have hb0 := below_new (w := w) (.cells #[.slice Av (vers b).length cv, .slice A2 b.chs.length c2] 55)
  have hN0 := World.alloc_heap_new w (.cells #[.slice Av (vers b).length cv, .slice A2 b.chs.length c2] 55)
  have HB0 := Lib.hid hb0
  have HC := Lib.hid (count_any _ _ b _ (hv0.step hb0) hs h0 hi hw)
  obtain ⟨k0, k1⟩ := cells_two hN0
  have HR := Lib.hid (show rich b = decide (2048 < cnt b) from rfl)
  clear hv0 h1 h2 hs hb0 hN0 h0 hi hw
  generalize rich b = r at *
  generalize cnt b = t at *
  by_cases ht : 2048 < t
  · rw [decide_eq_true ht] at HR
    obtain rfl := HR.out
    go_enter Tryz.func38, Tryz.ntmps38
    go_wp2_with fail
    (with_reducible refine HC.out.mono ?_)
    rintro e w1 ⟨rfl, hb⟩
    have HB := Lib.hid (HB0.out.trans (hb.mono HB0.out.size))
    clear hb
    go_wp2_with fail
    go_ret
    exact ⟨rfl, HB.out⟩
  · rw [decide_eq_false ht] at HR
    obtain rfl := HR.out
    go_enter Tryz.func38, Tryz.ntmps38
    go_wp2_with fail
    (with_reducible refine HC.out.mono ?_)
    rintro e w1 ⟨rfl, hb⟩
    have HB := Lib.hid (HB0.out.trans (hb.mono HB0.out.size))
    clear hb
    go_wp2_with fail
    go_ret
    exact ⟨by simp [Array.getD, ht], HB.out⟩
theorem versF_zero (a : List Int) (y : Int) (l : List Ch) : (versF a y l)[0]? = some a := by
  cases l with
  | nil => rfl
  | cons x l => unfold versF; split <;> rfl
theorem val_ver {b : Bk} (h : Val b) : Ver b.first := by
  have h2 := h.2
  unfold vers at h2
  split at h2
  · assumption
  · simp at h2
theorem val_first {b : Bk} (h : Val b) : (vers b)[0]? = some b.first := by
  unfold vers; rw [if_pos (val_ver h)]; exact versF_zero _ _ _
theorem val_wf {b : Bk} (h : Val b) : WfB b := by
  refine ⟨(val_ver h).2.2.2, fun c hc => ?_⟩
  obtain ⟨k, hk, e⟩ := List.getElem_of_mem hc
  obtain ⟨A, y, h1, h2, h3⟩ := vers_step h (by rw [← e]; exact List.getElem?_eq_getElem hk : b.chs[k]? = some c)
  exact ⟨h2.2.2.1.2.2.2, h2.2.2.2.1.2.2.2⟩
/-- .. of a valid book -/
theorem rich_val (v vc : Value) (b : Bk) (w : World) (hv : HsV w v b vc) (hs : Sm b) (h : Val b) :
    Calls Tryz.prog 38 #[v] w fun e w' => e = .returned (.bool (rich b)) ∧ Below w.heap.size w w' :=
  rich_any v vc b w hv hs (val_first h) (val_ver h).2.2.1 (val_wf h)
end Go.Proofs.YtplpogonkfnafaaGreat
namespace Go.Proofs.YtplpogonkfnafaaGreat
open Go.RowKit Go.Nm

def relOut (b : Bk) (n x m y : Int) : Int × Int := if openAtE b [m] n x = 0 then (if y ∈ (vers b).getD m.toNat [] then (if rich b then (0, 2) else (relE b.chs n.toNat x m.toNat y, 0)) else (0, 22)) else (0, openAtE b [m] n x)
def OutI (r er : Int) (w : World) (e : Ending) (w' : World) : Prop := e = .returned (.tuple #[.int .i64 r, .int .i64 er]) ∧ Below w.heap.size w w'
theorem vers_sl {w : World} {v vc : Value} {b : Bk} (h : HsV w v b vc) : ∃ Av cv, v = .agg #[.slice Av (vers b).length cv, vc] ∧ VsSl w w.heap.size (.slice Av (vers b).length cv) (vers b) := by
  obtain ⟨vs, rfl, h1, _⟩ := h
  obtain ⟨Av, cv, rfl⟩ := h1.form
  exact ⟨Av, cv, rfl, h1⟩
set_option maxRecDepth 100000 in
set_option maxHeartbeats 8000000 in
theorem Relate_any (v vc : Value) (b : Bk) (n x m y : Int) (w : World) (hv : BkV w v b vc) (hs : Sm b) :
    Calls Tryz.prog 18 #[v, .int .i64 n, .int .i64 x, .int .i64 m, .int .i64 y] w (OutI (relOut b n x m y).1 (relOut b n x m y).2 w) := by
  have hv0 := hv
  obtain ⟨v1, rfl, h1, h2⟩ := hv
  obtain ⟨A1, c1, rfl, _⟩ := h1.form
  obtain ⟨A2, c2, rfl⟩ := h2.form
  have hb0 := below_new (w := w) (.cells #[.slice A1 b.first.length c1, .slice A2 b.chs.length c2] 25)
  have hb1 := below_new (w := w.alloc (.cells #[.slice A1 b.first.length c1, .slice A2 b.chs.length c2] 25)) (.cells #[.int .i64 m] 3)
  have HO := Lib.hid (openAt_any w _ _ _ (.slice (some ⟨(w.alloc (.cells #[.slice A1 b.first.length c1, .slice A2 b.chs.length c2] 25)).heap.size, 0, none⟩) 1 1) n x [m] b hv0 hs (hb0.trans (hb1.mono hb0.size)) (one_own w _ m hb0.size) (by simp))
  have HM := Lib.hid (show relOut b n x m y = if openAtE b [m] n x = 0 then (if y ∈ (vers b).getD m.toNat [] then (if rich b then (0, 2) else (relE b.chs n.toNat x m.toNat y, 0)) else (0, 22)) else (0, openAtE b [m] n x) from rfl)
  have HZ := Lib.hid (openAtE_zero (b := b) (V := [m]) (n := n) (x := x))
  have HS := Lib.hid hs
  clear hv0 h1 h2 hb0 hb1 hs
  generalize relOut b n x m y = o at *
  obtain ⟨oR, oE⟩ := o
  dsimp only
  generalize openAtE b [m] n x = er at *
  simp only [World.size_alloc] at HO
  go_enter Tryz.func18, Tryz.ntmps18
  go_wp2_with fail
  (with_reducible refine HO.out.mono ?_)
  rintro e w1 ⟨u, rfl, hu0, hu1, hb⟩
  have HB := Lib.hid hb
  clear hb
  by_cases he : er = 0
  · subst he
    obtain ⟨hval, hV, hx⟩ := HZ.out rfl
    obtain ⟨n0, n1⟩ := hV n (by simp)
    obtain ⟨m0, m1⟩ := hV m (by simp)
    obtain ⟨n', rfl⟩ : ∃ k : Nat, n = (k : Int) := ⟨n.toNat, by omega⟩
    obtain ⟨m', rfl⟩ : ∃ k : Nat, m = (k : Int) := ⟨m.toNat, by omega⟩
    rw [if_pos rfl] at HM
    have hH := hu0 rfl
    obtain ⟨Av, cv, rfl, hvs⟩ := vers_sl hH
    have hvl := hval.2
    have hml : m' < (vers b).length := by omega
    have hb2 := below_new (w := w1) (.cells #[.slice Av (vers b).length cv, .slice A2 b.chs.length c2] 55)
    have HH := Lib.hid (hH.step hb2)
    obtain ⟨ad, uk, L, rfl, hadb, hL, hck, hinL⟩ := ((hvs.below hb2).mono hb2.size).at_ hml
    obtain ⟨hLi, hLl⟩ := vers_ok L (List.mem_of_getElem? hL)
    obtain ⟨Lx, hLx⟩ : ∃ Lx, (vers b)[n']? = some Lx := ⟨_, List.getElem?_eq_getElem (by omega)⟩
    have hxL : x ∈ Lx := by rw [Int.toNat_natCast, List.getD_eq_getElem?_getD, hLx] at hx; exact hx
    have HB2 := Lib.hid (HB.out.trans (hb2.mono HB.out.size))
    have HHas := Lib.hid (has_any uk L y _ hinL hLi (by omega))
    have HRi := Lib.hid (rich_val _ _ b _ HH.out HS.out hval)
    have HRe := Lib.hid (fun X (hb : Below (w1.alloc (.cells #[.slice (some ad) (vers b).length cv, .slice A2 b.chs.length c2] 55)).heap.size (w1.alloc (.cells #[.slice (some ad) (vers b).length cv, .slice A2 b.chs.length c2] 55)) X) =>
      relation_any _ _ b n' m' x y Lx L X (HH.out.step hb) HS.out hval hLx hxL hL)
    have HM2 := Lib.hid (show (oR, oE) = if y ∈ L then (if rich b then (0, 2) else (relE b.chs n' x m' y, 0)) else (0, 22) from by
      have h := HM.out
      rw [Int.toNat_natCast, Int.toNat_natCast, List.getD_eq_getElem?_getD, hL] at h; exact h)
    obtain ⟨Ak, ck, rfl, _⟩ := hinL.form
    have HN2 := Lib.hid (World.alloc_heap_new w1 (.cells #[.slice (some ad) (vers b).length cv, .slice A2 b.chs.length c2] 55))
    clear hH hvs hb2 hu0 hu1 hV hx hval n0 n1 m0 m1 HZ HM hinL hLi hLl hLx hxL hL hadb hvl
    obtain ⟨W8, hW8⟩ : ∃ W8, w1.alloc (.cells #[.slice (some ad) (vers b).length cv, .slice A2 b.chs.length c2] 55) = W8 := ⟨_, rfl⟩
    rw [hW8] at HH HB2 HHas HRi HRe HN2 hck
    generalize hvq : (vers b).length = vl at *
    clear hvq
    obtain ⟨k0, k1⟩ := cells_two HN2.out
    have HHas2 := Lib.hid HHas.out
    by_cases hyL : y ∈ L
    · rw [decide_eq_true hyL] at HHas
      rw [if_pos hyL] at HM2
      clear hyL HHas2
      obtain ⟨rr, hrr⟩ : ∃ rr, rich b = rr := ⟨_, rfl⟩
      rw [hrr] at HM2 HRi
      clear hrr
      obtain ⟨z, hz⟩ : ∃ z, relE b.chs n' x m' y = z := ⟨_, rfl⟩
      rw [hz] at HM2
      have HZz := Lib.hid hz
      clear hz
      go_wp2_with fail
      refine HHas.out.mono ?_
      rintro e w3 ⟨rfl, rfl⟩
      go_wp2_with fail
      (with_reducible refine HRi.out.mono ?_)
      rintro e w3 ⟨rfl, hb⟩
      have HB3 := Lib.hid (And.intro hb (HB2.out.trans (hb.mono HB2.out.size)))
      have j0 : w3.cell? ⟨w1.heap.size, 0, none⟩ = some (.slice (some ad) vl cv) := (hb.cell (p := ⟨w1.heap.size, 0, none⟩) (Array.getElem?_eq_some_iff.1 HN2.out).1).trans k0
      have j1 : w3.cell? ⟨w1.heap.size, 1, none⟩ = some (.slice A2 b.chs.length c2) := (hb.cell (p := ⟨w1.heap.size, 1, none⟩) (Array.getElem?_eq_some_iff.1 HN2.out).1).trans k1
      clear hb k0 k1 hck
      cases rr with
      | true =>
        have hM := HM2.out
        rw [if_pos rfl] at hM
        injection hM with hM1 hM2
        subst hM1; subst hM2
        clear HM2
        go_wp2_with fail
        go_ret2
        exact ⟨rfl, HB3.out.2⟩
      | false =>
        have hM := HM2.out
        rw [if_neg (by decide)] at hM
        injection hM with hM1 hM2
        subst hM1; subst hM2
        clear HM2
        have HC := Lib.hid (HRe.out w3 HB3.out.1)
        go_wp2_with fail
        (with_reducible refine HC.out.mono ?_)
        rintro e w4 ⟨rfl, hb⟩
        have HB4 := Lib.hid (HB3.out.2.trans (hb.mono HB3.out.2.size))
        clear hb
        rw [HZz.out]
        go_wp2_with fail
        go_ret2
        exact ⟨rfl, HB4.out⟩
    · rw [decide_eq_false hyL] at HHas
      rw [if_neg hyL] at HM2
      clear hyL HHas2
      have hM := HM2.out
      injection hM with hM1 hM2
      subst hM1; subst hM2
      clear HM2
      go_wp2_with fail
      refine HHas.out.mono ?_
      rintro e w3 ⟨rfl, rfl⟩
      go_wp2_with fail
      go_ret2
      exact ⟨rfl, HB2.out⟩
  · rw [if_neg he] at HM
    have hM := HM.out
    injection hM with hM1 hM2
    subst hM1; subst hM2
    clear HM
    obtain rfl := hu1 he
    have HB2 := Lib.hid (HB.out.trans ((below_new (w := w1) (.cells #[.slice none 0 0, .slice none 0 0] 55)).mono HB.out.size))
    unfold nilH at *
    clear hu0 hu1 HZ
    go_wp2_with fail
    go_ret2
    exact ⟨rfl, HB2.out⟩
end Go.Proofs.YtplpogonkfnafaaGreat
namespace Go.Proofs.YtplpogonkfnafaaGreat
open Go.RowKit Go.Nm

/-- the first of some names that is the same -/
def exF (chs : List Ch) (n : Nat) (x : Int) (m : Nat) : List Int → Int × Int
  | [] => (0, 3)
  | y :: l => if relE chs n x m y = 1 then (y, 0) else exF chs n x m l
def exS (chs : List Ch) (n : Nat) (x : Int) (m : Nat) : Int × Int := exF chs n x m (mns chs n [x] m)
def exOut (b : Bk) (n x m : Int) : Int × Int := if openAtE b [m] n x = 0 then (if rich b then (0, 2) else exS b.chs n.toNat x m.toNat) else (0, openAtE b [m] n x)
theorem exF_next {chs : List Ch} {n m k : Nat} {x y : Int} {l : List Int} (h : l[k]? = some y) : exF chs n x m (l.drop k) = if relE chs n x m y = 1 then (y, 0) else exF chs n x m (l.drop (k + 1)) := by
  obtain ⟨hk, rfl⟩ := List.getElem?_eq_some_iff.1 h
  rw [List.drop_eq_getElem_cons hk]; rfl
set_option maxRecDepth 100000 in
set_option maxHeartbeats 8000000 in
theorem Exact_any (v vc : Value) (b : Bk) (n x m : Int) (w : World) (hv : BkV w v b vc) (hs : Sm b) :
    Calls Tryz.prog 19 #[v, .int .i64 n, .int .i64 x, .int .i64 m] w (OutI (exOut b n x m).1 (exOut b n x m).2 w) := by
  have hv0 := hv
  obtain ⟨v1, rfl, h1, h2⟩ := hv
  obtain ⟨A1, c1, rfl, _⟩ := h1.form
  obtain ⟨A2, c2, rfl⟩ := h2.form
  have hb0 := below_new (w := w) (.cells #[.slice A1 b.first.length c1, .slice A2 b.chs.length c2] 25)
  have hb1 := below_new (w := w.alloc (.cells #[.slice A1 b.first.length c1, .slice A2 b.chs.length c2] 25)) (.cells #[.int .i64 m] 3)
  have HO := Lib.hid (openAt_any w _ _ _ (.slice (some ⟨(w.alloc (.cells #[.slice A1 b.first.length c1, .slice A2 b.chs.length c2] 25)).heap.size, 0, none⟩) 1 1) n x [m] b hv0 hs (hb0.trans (hb1.mono hb0.size)) (one_own w _ m hb0.size) (by simp))
  have HM := Lib.hid (show exOut b n x m = if openAtE b [m] n x = 0 then (if rich b then (0, 2) else exS b.chs n.toNat x m.toNat) else (0, openAtE b [m] n x) from rfl)
  have HZ := Lib.hid (openAtE_zero (b := b) (V := [m]) (n := n) (x := x))
  have HS := Lib.hid hs
  clear hv0 h1 h2 hb0 hb1 hs
  generalize exOut b n x m = o at *
  obtain ⟨oR, oE⟩ := o
  dsimp only
  generalize openAtE b [m] n x = er at *
  simp only [World.size_alloc] at HO
  go_enter Tryz.func19, Tryz.ntmps19
  go_wp2_with fail
  (with_reducible refine HO.out.mono ?_)
  rintro e w1 ⟨u, rfl, hu0, hu1, hb⟩
  have HB := Lib.hid hb
  clear hb
  by_cases he : er = 0
  · subst he
    obtain ⟨hval, hV, hx⟩ := HZ.out rfl
    obtain ⟨n0, n1⟩ := hV n (by simp)
    obtain ⟨m0, m1⟩ := hV m (by simp)
    obtain ⟨n', rfl⟩ : ∃ k : Nat, n = (k : Int) := ⟨n.toNat, by omega⟩
    obtain ⟨m', rfl⟩ : ∃ k : Nat, m = (k : Int) := ⟨m.toNat, by omega⟩
    rw [if_pos rfl] at HM
    have hH := hu0 rfl
    obtain ⟨Av, cv, rfl, hvs⟩ := vers_sl hH
    have hvl := hval.2
    obtain ⟨L, hL⟩ : ∃ L, (vers b)[m']? = some L := ⟨_, List.getElem?_eq_getElem (by omega)⟩
    have hb2 := below_new (w := w1) (.cells #[.slice Av (vers b).length cv, .slice A2 b.chs.length c2] 55)
    have HH := Lib.hid (hH.step hb2)
    obtain ⟨Lx, hLx⟩ : ∃ Lx, (vers b)[n']? = some Lx := ⟨_, List.getElem?_eq_getElem (by omega)⟩
    have hxL : x ∈ Lx := by rw [Int.toNat_natCast, List.getD_eq_getElem?_getD, hLx] at hx; exact hx
    have hnl : n' ≤ b.chs.length := by omega
    have hml : m' ≤ b.chs.length := by omega
    have hmnl : (mns b.chs n' [x] m').length ≤ 400 := by
      obtain ⟨B, hB, h3, h4⟩ := mns_ok hval hLx (l := [x]) (by simp [Inc]) (by simp; exact hxL) hnl hml
      exact Nat.le_trans (inc_sub_len h3 h4) (vers_ok B (List.mem_of_getElem? hB)).2
    have HB2 := Lib.hid (HB.out.trans (hb2.mono HB.out.size))
    have HRi := Lib.hid (rich_val _ _ b _ HH.out HS.out hval)
    have HMe := Lib.hid (fun X (hb : Below (w1.alloc (.cells #[.slice Av (vers b).length cv, .slice A2 b.chs.length c2] 55)).heap.size (w1.alloc (.cells #[.slice Av (vers b).length cv, .slice A2 b.chs.length c2] 55)) X) =>
      meaning_any _ _ b x n' m' X (HH.out.step hb) HS.out hval.1 hnl hml)
    have HRe := Lib.hid (fun y X (hb : Below (w1.alloc (.cells #[.slice Av (vers b).length cv, .slice A2 b.chs.length c2] 55)).heap.size (w1.alloc (.cells #[.slice Av (vers b).length cv, .slice A2 b.chs.length c2] 55)) X) =>
      relation_any _ _ b n' m' x y Lx L X (HH.out.step hb) HS.out hval hLx hxL hL)
    have HM2 := Lib.hid (show (oR, oE) = if rich b then (0, 2) else exF b.chs n' x m' (mns b.chs n' [x] m') from by
      have h := HM.out
      rw [Int.toNat_natCast, Int.toNat_natCast] at h; exact h)
    have HN2 := Lib.hid (World.alloc_heap_new w1 (.cells #[.slice Av (vers b).length cv, .slice A2 b.chs.length c2] 55))
    clear hH hvs hb2 hu0 hu1 hV hx hval n0 n1 m0 m1 HZ HM hLx hxL hL hvl hnl hml
    obtain ⟨W8, hW8⟩ : ∃ W8, w1.alloc (.cells #[.slice Av (vers b).length cv, .slice A2 b.chs.length c2] 55) = W8 := ⟨_, rfl⟩
    rw [hW8] at HH HB2 HMe HRi HRe HN2
    generalize hvq : (vers b).length = vl at *
    clear hvq
    obtain ⟨k0, k1⟩ := cells_two HN2.out
    obtain ⟨rr, hrr⟩ : ∃ rr, rich b = rr := ⟨_, rfl⟩
    rw [hrr] at HM2 HRi
    clear hrr
    generalize mns b.chs n' [x] m' = F at *
    go_wp2_with fail
    (with_reducible refine HRi.out.mono ?_)
    rintro e w3 ⟨rfl, hb⟩
    have HB3 := Lib.hid (And.intro hb (HB2.out.trans (hb.mono HB2.out.size)))
    have j0 : w3.cell? ⟨w1.heap.size, 0, none⟩ = some (.slice Av vl cv) := (hb.cell (p := ⟨w1.heap.size, 0, none⟩) (Array.getElem?_eq_some_iff.1 HN2.out).1).trans k0
    have j1 : w3.cell? ⟨w1.heap.size, 1, none⟩ = some (.slice A2 b.chs.length c2) := (hb.cell (p := ⟨w1.heap.size, 1, none⟩) (Array.getElem?_eq_some_iff.1 HN2.out).1).trans k1
    clear hb k0 k1
    cases rr with
    | true =>
      have hM := HM2.out
      rw [if_pos rfl] at hM
      injection hM with hM1 hM2
      subst hM1; subst hM2
      clear HM2
      go_wp2_with fail
      go_ret2
      exact ⟨rfl, HB3.out.2⟩
    | false =>
      have HM3 := Lib.hid (show (oR, oE) = exF b.chs n' x m' F from by have h := HM2.out; rw [if_neg (by decide)] at h; exact h)
      clear HM2
      have HC := Lib.hid (HMe.out w3 HB3.out.1)
      go_wp2_with fail
      (with_reducible refine HC.out.mono ?_)
      rintro e w4 ⟨⟨r, rfl, hr⟩, hb⟩
      have HR4 := Lib.hid hr
      have HB4 := Lib.hid (And.intro (HB3.out.1.trans (hb.mono HB3.out.1.size)) (HB3.out.2.trans (hb.mono HB3.out.2.size)))
      obtain ⟨A3, c3, rfl, _⟩ := hr.form
      have hF : F.length ≤ 400 := hmnl
      clear hb hr HC hmnl j0 j1 HRi HMe
      generalize hfl : F.length = fl at *
      have HFl := Lib.hid hfl
      clear hfl
      go_wp2_with fail
      have k0' := HN2.out
      clear k0'
      have hg1 : w1.heap.size < W8.heap.size := (Array.getElem?_eq_some_iff.1 HN2.out).1
      obtain ⟨k0, k1⟩ := cells_two HN2.out
      have HK := Lib.hid (And.intro k0 k1)
      clear k0 k1
      have HM4 := Lib.hid (show exF b.chs n' x m' (F.drop 0) = (oR, oE) from HM3.out.symm)
      clear HM3
      go_loopw [34] (fun iv wq => ∃ k : Nat, iv = .int .i64 (k : Int) ∧ k ≤ fl ∧ exF b.chs n' x m' (F.drop k) = (oR, oE) ∧ Below W8.heap.size W8 wq ∧ Below w.heap.size w wq ∧ InA wq wq.heap.size A3 F) (fun iv _ => fl - (intOf iv).toNat)
      case atStart => exact ⟨0, rfl, by omega, HM4.out, HB4.out.1, HB4.out.2, by obtain ⟨_, _, e, _, _, h⟩ := HR4.out; cases e; exact h⟩
      case round =>
        obtain ⟨k, rfl, hkl, hE, hb8, hbw, hA⟩ := hrel
        have HE := Lib.hid hE
        have HBB := Lib.hid (And.intro hb8 hbw)
        have HA := Lib.hid hA
        have j0 : wr.cell? ⟨w1.heap.size, 0, none⟩ = some (.slice Av vl cv) := (hb8.cell (p := ⟨w1.heap.size, 0, none⟩) hg1).trans HK.out.1
        have j1 : wr.cell? ⟨w1.heap.size, 1, none⟩ = some (.slice A2 b.chs.length c2) := (hb8.cell (p := ⟨w1.heap.size, 1, none⟩) hg1).trans HK.out.2
        clear hE hb8 hbw hA HB4 HM4 HR4 HB3
        by_cases hlt : k < fl
        · obtain ⟨y, ad, hy, rfl, hbd, hcy⟩ := HA.out.at_ HFl.out hlt
          have HX := Lib.hid (exF_next (chs := b.chs) (n := n') (m := m') (x := x) hy)
          have HC := Lib.hid (HRe.out y wr HBB.out.1)
          clear hy hbd
          generalize relE b.chs n' x m' y = z at *
          by_cases hz : z = 1
          · have hM : (oR, oE) = (y, 0) := by rw [← HE.out, HX.out, if_pos hz]
            injection hM with hM1 hM2
            subst hM1; subst hM2; subst hz
            go_wp2_with fail
            (with_reducible refine HC.out.mono ?_)
            rintro e w5 ⟨rfl, hb⟩
            have HB5 := Lib.hid (HBB.out.2.trans (hb.mono HBB.out.2.size))
            clear hb
            go_wp2_with fail
            go_ret2
            exact ⟨rfl, HB5.out⟩
          · have HE2 := Lib.hid (show exF b.chs n' x m' (F.drop (k + 1)) = (oR, oE) from by rw [← HE.out, HX.out, if_neg hz])
            have hzb : (z == 1) = false := by simpa using hz
            clear hz
            go_wp2_with fail
            (with_reducible refine HC.out.mono ?_)
            rintro e w5 ⟨rfl, hb⟩
            have HB5 := Lib.hid (And.intro (HBB.out.1.trans (hb.mono HBB.out.1.size)) (And.intro (HBB.out.2.trans (hb.mono HBB.out.2.size)) ((HA.out.below hb).mono hb.size)))
            clear hb
            go_wp2_with fail
            go_roundw
            case rel => exact ⟨k + 1, by go_num, by omega, HE2.out, HB5.out.1, HB5.out.2.1, HB5.out.2.2⟩
            case measure => simp [intOf]; omega
        · obtain rfl : k = fl := by omega
          have hM : (oR, oE) = (0, 3) := by
            have h := HE.out
            rw [List.drop_eq_nil_of_le (by have := HFl.out; omega)] at h
            exact h.symm
          injection hM with hM1 hM2
          subst hM1; subst hM2
          go_wp2_with fail
          go_ret2
          exact ⟨rfl, HBB.out.2⟩
  · rw [if_neg he] at HM
    have hM := HM.out
    injection hM with hM1 hM2
    subst hM1; subst hM2
    clear HM
    obtain rfl := hu1 he
    have HB2 := Lib.hid (HB.out.trans ((below_new (w := w1) (.cells #[.slice none 0 0, .slice none 0 0] 55)).mono HB.out.size))
    unfold nilH at *
    clear hu0 hu1 HZ
    go_wp2_with fail
    go_ret2
    exact ⟨rfl, HB2.out⟩
end Go.Proofs.YtplpogonkfnafaaGreat
