
/- The greatest of spread is worst. -/
import Derived.Test.YthfegbcbpeedbaaGreatDoorKyPg
import Derived.Test.YthfegbcbpeedbaaGreatDoorKyAs
namespace Go.Proofs.YthfegbcbpeedbaaGreatDoor
open Go.RowKit Go.Nm Go.Ky

/-- a row of two lists -/
theorem two_box {w : World} {v u : Value} {a b : List Int} (h : InSl w w.heap.size v a) (h' : InSl w w.heap.size u b) : VsSl (w.alloc (.cells #[v, u] 22)) (w.alloc (.cells #[v, u] 22)).heap.size (.slice (some ⟨w.heap.size, 0, none⟩) 2 2) [a, b] := by
  have hb := below_new (w := w) (.cells #[v, u] 22)
  have hn := World.alloc_heap_new w (.cells #[v, u] 22)
  refine ⟨_, 2, [v, u], rfl, ⟨rfl, fun i x L h1 h2 => ?_⟩, fun i x h1 => ⟨_, rfl, (Array.getElem?_eq_some_iff.1 hn).1, ?_⟩⟩
  · rcases (show i = 0 ∨ i = 1 by have := (List.getElem?_eq_some_iff.1 h1).1; simp at this; omega) with rfl | rfl
    · simp at h1 h2
      subst h1; subst h2
      exact h.step hb
    · simp at h1 h2
      subst h1; subst h2
      exact h'.step hb
  · rw [add_zero_k]
    simp only [World.cell?, hn]
    simpa using h1
theorem fits_any0 {a b : List Int} : ((List.zipWith meetF a b).any fun x => decide (x = 0)) = !(fitsF a b) := by
  rw [show fitsF a b = (List.zipWith meetF a b).all fun z => decide (z ≠ 0) from zip_all a b]
  generalize List.zipWith meetF a b = L
  induction L with
  | nil => rfl
  | cons x L ih =>
    rw [List.any_cons, List.all_cons, ih]
    by_cases hx : x = 0 <;> simp [hx]
end Go.Proofs.YthfegbcbpeedbaaGreatDoor
namespace Go.Proofs.YthfegbcbpeedbaaGreatDoor
open Go.RowKit Go.Nm Go.Ky

set_option maxRecDepth 100000 in
set_option maxHeartbeats 8000000 in
theorem ralone_any (u : Value) (l : List Int) (c s : Nat) (w : World) (hu : InSl w w.heap.size u l) (hc : c < l.length) (hs : s < 16) (hl : l.length ≤ 1000000) :
    Calls Tryz.prog 32 #[u, .int .i64 (c : Int), .int .i64 (s : Int)] w fun e w' => (∃ r, e = .returned r ∧ Fr w.heap.size w' r (l.set c (2 ^ s))) ∧ Below w.heap.size w w' := by
  obtain ⟨Au, cu, rfl, _⟩ := hu.form
  have HL0 := Lib.hid (OwN.lit w)
  have HIm := Lib.hid (hu.step HL0.out.bel)
  obtain ⟨n, hn⟩ : ∃ n, l.length = n := ⟨_, rfl⟩
  have HN := Lib.hid hn
  have HLe := Lib.hid (show ([] : List Int).length + l.length ≤ 3000000 from by simp; omega)
  have hcn : (c : Int) < (n : Int) := by omega
  have hcn2 : c < n := by omega
  rw [hn] at HIm ⊢
  have hs64 : s < 64 := by omega
  have hs0 : ¬ (s : Int) < 0 := by omega
  obtain ⟨p1, p2⟩ := pow16 (k := s) (by omega)
  have hpw : IntKind.i64.wrap ((2 : Int) ^ s) = 2 ^ s := by
    rw [show ((2 : Int) ^ s) = ((2 ^ s : Nat) : Int) from by simp, IntKind.wrap_i64]
    omega
  clear hu hn p1 p2
  go_enter Tryz.func32, Tryz.ntmps32
  go_wp2_with (at_builtin; refine wpList_appN rfl _ _ rfl HL0.out rfl rfl HIm.out HLe.out ?_; intro v6 w6 hI6 _; obtain ⟨g6, c6, e6, hc1, hc2, hW6⟩ := hI6.iwc (by simp only [List.nil_append]; have := HN.out; omega); rw [List.nil_append, HN.out] at e6 hc1 hW6; subst e6; have HW6 := Lib.hid hW6; have HO6 := Lib.hid hI6; have HCp := Lib.hid (And.intro hc1 hc2); have k6 := hW6.cell hcn2; have f6 := hW6.froz c; clear hI6 hc1 hc2 hW6)
  go_ret
  have h2 := (HW6.out.set c (2 ^ s))
  exact ⟨⟨_, rfl, h2.list HN.out hcn2 HCp.out.1 HCp.out.2, fun g e => by
    have e2 : g6 = g := by simpa [Value.ownBlock] using e
    subst e2
    exact ⟨h2.base, h2.lt⟩⟩, h2.bel⟩
end Go.Proofs.YthfegbcbpeedbaaGreatDoor
namespace Go.Ky
open Go.Nm
/-- how many names remain with one state alone -/
def aloneN (m : Mx) (l : List Int) (c s : Nat) : Int := (((remL m.rows (l.set c (2 ^ s))).length : Nat) : Int)
def spS (m : Mx) (l : List Int) (c : Nat) : Nat → Int × Int
  | 0 => (-1, 0)
  | s + 1 => if ((l.getD c 0).toNat / 2 ^ s) % 2 = 1 then (if (spS m l c s).1 < 0 ∨ aloneN m l c s < (spS m l c s).1 then aloneN m l c s else (spS m l c s).1, max (spS m l c s).2 (aloneN m l c s)) else spS m l c s
theorem spS_no {m : Mx} {l : List Int} {c s x : Nat} (hx : l[c]? = some (x : Int)) (h : x / 2 ^ s % 2 = 0) : spS m l c (s + 1) = spS m l c s := by
  conv => lhs; unfold spS
  rw [List.getD_eq_getElem?_getD, hx]
  simp [h]
theorem spS_yes {m : Mx} {l : List Int} {c s x : Nat} (hx : l[c]? = some (x : Int)) (h : x / 2 ^ s % 2 = 1) : spS m l c (s + 1) = (if (spS m l c s).1 < 0 ∨ aloneN m l c s < (spS m l c s).1 then aloneN m l c s else (spS m l c s).1, max (spS m l c s).2 (aloneN m l c s)) := by
  conv => lhs; unfold spS
  rw [List.getD_eq_getElem?_getD, hx]
  simp [h]
end Go.Ky
namespace Go.Proofs.YthfegbcbpeedbaaGreatDoor
open Go.RowKit Go.Nm Go.Ky

structure SpI (V : World) (mv uv : Value) (c s N : Int) (L : List Int) (M : List Int) (dn : Nat → Bool) (val : Nat → Value) (X : World) : Prop where
  s0 : dn 0 = true → val 0 = mv
  s1 : dn 1 = true → val 1 = uv
  s2 : dn 2 = true → val 2 = .int .i64 c
  s3 : dn 3 = true → val 3 = .int .i64 s
  s6 : dn 6 = true → val 6 = .int .i64 N
  s7 : dn 7 = true → val 7 = .int .i64 N
  bel : Below V.heap.size V X
  e4 : dn 4 = true → InSl X X.heap.size (val 4) L
  e5 : dn 5 = true → InSl X X.heap.size (val 5) M
section
variable {V : World} {mv uv : Value} {c s N : Int} {L : List Int} {M : List Int} {dn : Nat → Bool} {val : Nat → Value} {X Y : World}
theorem SpI.op0 (h : SpI V mv uv c s N L M dn val X) : SpI V mv uv c s N L M (andB dn 0) (updV val 0 (mv)) X :=
  ⟨(fun _ => rfl), h.s1, h.s2, h.s3, h.s6, h.s7, h.bel, h.e4, h.e5⟩
theorem SpI.op1 (h : SpI V mv uv c s N L M dn val X) : SpI V mv uv c s N L M (andB dn 1) (updV val 1 (uv)) X :=
  ⟨h.s0, (fun _ => rfl), h.s2, h.s3, h.s6, h.s7, h.bel, h.e4, h.e5⟩
theorem SpI.op2 (h : SpI V mv uv c s N L M dn val X) : SpI V mv uv c s N L M (andB dn 2) (updV val 2 (.int .i64 c)) X :=
  ⟨h.s0, h.s1, (fun _ => rfl), h.s3, h.s6, h.s7, h.bel, h.e4, h.e5⟩
theorem SpI.op3 (h : SpI V mv uv c s N L M dn val X) : SpI V mv uv c s N L M (andB dn 3) (updV val 3 (.int .i64 s)) X :=
  ⟨h.s0, h.s1, h.s2, (fun _ => rfl), h.s6, h.s7, h.bel, h.e4, h.e5⟩
theorem SpI.op6 (h : SpI V mv uv c s N L M dn val X) : SpI V mv uv c s N L M (andB dn 6) (updV val 6 (.int .i64 N)) X :=
  ⟨h.s0, h.s1, h.s2, h.s3, (fun _ => rfl), h.s7, h.bel, h.e4, h.e5⟩
theorem SpI.op7 (h : SpI V mv uv c s N L M dn val X) : SpI V mv uv c s N L M (andB dn 7) (updV val 7 (.int .i64 N)) X :=
  ⟨h.s0, h.s1, h.s2, h.s3, h.s6, (fun _ => rfl), h.bel, h.e4, h.e5⟩
theorem SpI.op4 (h : SpI V mv uv c s N L M dn val X) {v : Value} (n5 : dn 5 = false) (hv : InSl Y Y.heap.size v L) (hb : Below X.heap.size X Y) : SpI V mv uv c s N L M (andB dn 4) (updV val 4 (v)) (Y) :=
  ⟨h.s0, h.s1, h.s2, h.s3, h.s6, h.s7, h.bel.trans (hb.mono h.bel.size), (fun _ => hv), (fun d => f_t n5 d)⟩
theorem SpI.op5 (h : SpI V mv uv c s N L M dn val X) {v : Value} (hv : InSl Y Y.heap.size v M) (hb : Below X.heap.size X Y) : SpI V mv uv c s N L M (andB dn 5) (updV val 5 (v)) (Y) :=
  ⟨h.s0, h.s1, h.s2, h.s3, h.s6, h.s7, h.bel.trans (hb.mono h.bel.size), (fun d => (h.e4 d).step hb), (fun _ => hv)⟩
end
section
variable {o : Oper} {a : Act} {w : World} {K : Act → World → Prop} {Q : Exit → Act → World → Prop}
set_option maxRecDepth 100000 in
theorem opCallAl (q r s : Nat) (v1 v2 v3 : Value) (R : Ending → World → Prop) (ho : o.op = .call { callee := .value (.func 32), args := #[.tmp q, .tmp r, .tmp s], argTypes := #[22, 3, 3] }) (h1 : a.tmps.getD q undef = v1) (h2 : a.tmps.getD r undef = v2) (h3 : a.tmps.getD s undef = v3)
    (hc : Calls Tryz.prog 32 #[v1, v2, v3] w R) (h : ∀ e w', R e w' → ∃ v, e = .returned v ∧ K (a.put o.dst v) w') : o.wp Tryz.prog a w K Q := by
  unfold Oper.wp execOp
  have e1 : a.eval (.tmp q) = v1 := h1
  have e2 : a.eval (.tmp r) = v2 := h2
  have e3 : a.eval (.tmp s) = v3 := h3
  simp only [ho]
  go_simp
  refine hc.mono ?_
  intro e w' hR
  obtain ⟨v, rfl, hK⟩ := h e w' hR
  exact hK
set_option maxRecDepth 100000 in
theorem opLenI (q n c : Nat) (A : Option Addr) (ho : o.op = .call { callee := .builtin .len, args := #[.tmp q], argTypes := #[22] }) (h1 : a.tmps.getD q undef = .slice A n c) (h : K (a.put o.dst (.int .i64 (n : Int))) w) : o.wp Tryz.prog a w K Q := by
  unfold Oper.wp execOp
  have e1 : a.eval (.tmp q) = .slice A n c := h1
  simp only [ho]
  go_simp
  exact h
end
end Go.Proofs.YthfegbcbpeedbaaGreatDoor
namespace Go.Ky
open Go.Nm
theorem foldl_max_ge : ∀ (L : List Int) (a : Int), a ≤ L.foldl max a
  | [], a => by simp
  | x :: L, a => by
    rw [List.foldl_cons]
    exact Int.le_trans (Int.le_max_left a x) (foldl_max_ge L (max a x))
/-- what state t leaves, 0 if it is not in the set -/
def oneN (m : Mx) (l : List Int) (c x t : Nat) : Int := if x / 2 ^ t % 2 = 1 then aloneN m l c t else 0
theorem spS_fold {m : Mx} {l : List Int} {c x : Nat} (hx : l[c]? = some (x : Int)) : ∀ s, (spS m l c s).2 = ((List.range s).map (oneN m l c x)).foldl max 0
  | 0 => rfl
  | s + 1 => by
    rw [List.range_succ, List.map_append, List.foldl_append, ← spS_fold hx s]
    have h0 : 0 ≤ (spS m l c s).2 := by rw [spS_fold hx s]; exact foldl_max_ge _ _
    rcases Nat.mod_two_eq_zero_or_one (x / 2 ^ s) with h | h
    · rw [spS_no hx h]
      simp only [List.map_cons, List.map_nil, List.foldl_cons, List.foldl_nil]
      unfold oneN
      rw [if_neg (by omega)]
      omega
    · rw [spS_yes hx h]
      simp only [List.map_cons, List.map_nil, List.foldl_cons, List.foldl_nil]
      unfold oneN
      rw [if_pos h]
theorem fold_more (f : Nat → Int) (n : Nat) : ∀ k, (∀ t, n ≤ t → t < n + k → f t = 0) → ((List.range (n + k)).map f).foldl max 0 = ((List.range n).map f).foldl max 0
  | 0, _ => rfl
  | k + 1, h => by
    rw [show n + (k + 1) = (n + k) + 1 from rfl, List.range_succ, List.map_append, List.foldl_append, fold_more f n k (fun t h1 h2 => h t h1 (by omega))]
    simp only [List.map_cons, List.map_nil, List.foldl_cons, List.foldl_nil]
    rw [h (n + k) (by omega) (by omega)]
    have := foldl_max_ge ((List.range n).map f) 0
    omega
theorem fits_iff {a l : List Int} : fitsF a l = true ↔ ∀ (i : Nat) (x y : Int), a[i]? = some x → l[i]? = some y → meetF x y ≠ 0 := by
  constructor
  · intro h i x y h1 h2
    exact fits_at h h1 h2
  · intro h
    unfold fitsF
    refine List.all_eq_true.2 fun p hp => decide_eq_true ?_
    obtain ⟨i, hi, e⟩ := List.getElem_of_mem hp
    have h2 : (a.zip l)[i]? = some p := by rw [← e]; exact List.getElem?_eq_getElem hi
    have h3 := List.getElem?_zip_eq_some.1 h2
    exact h i p.1 p.2 h3.1 h3.2
theorem meet_nat {x y : Nat} (hx : x ≤ 65535) (hy : y ≤ 65535) : meetF (x : Int) (y : Int) = ((x &&& y : Nat) : Int) :=
  (meet_range (x := (x : Int)) (y := (y : Int)) (by omega) (by omega)).2.2
theorem bit_iff (x t : Nat) : x.testBit t = true ↔ x / 2 ^ t % 2 = 1 := by
  rw [Nat.testBit_eq_decide_div_mod_eq, decide_eq_true_eq]
theorem meet_pow {y t : Nat} (hy : y ≤ 65535) (ht : t < 16) : meetF (y : Int) ((2 : Int) ^ t) ≠ 0 ↔ y.testBit t = true := by
  obtain ⟨p1, p2⟩ := pow16 (k := t) (by omega)
  have hp : (2 : Nat) ^ t ≤ 65535 := by
    have : (2 : Nat) ^ t ≤ 2 ^ 15 := Nat.pow_le_pow_right (by omega) (by omega)
    omega
  rw [show ((2 : Int) ^ t) = ((2 ^ t : Nat) : Int) from by simp, meet_nat hy hp]
  have e : ∀ j, (y &&& 2 ^ t).testBit j = (y.testBit j && decide (t = j)) := fun j => by rw [Nat.testBit_and, Nat.testBit_two_pow]
  constructor
  · intro h
    cases hb : y.testBit t with
    | true => rfl
    | false =>
      refine absurd ?_ h
      have h0 : y &&& 2 ^ t = 0 := Nat.eq_of_testBit_eq fun j => by
        rw [e j, Nat.zero_testBit]
        by_cases hj : t = j
        · subst hj; rw [hb]; rfl
        · rw [decide_eq_false hj, Bool.and_false]
      rw [h0]; rfl
  · intro h h0
    have h1 : y &&& 2 ^ t = 0 := by omega
    have h2 := e t
    rw [h1, Nat.zero_testBit, h, decide_eq_true rfl] at h2
    cases h2
/-- a row fits with one state alone if it fits and may have that state -/
theorem fits_set {a l : List Int} {c t x y : Nat} (hl : a[c]? = some (y : Int)) (hx : l[c]? = some (x : Int)) (hx1 : x ≤ 65535) (hy1 : y ≤ 65535) (ht : t < 16) (hb : x.testBit t = true) :
    fitsF a (l.set c (2 ^ t)) = (fitsF a l && bitB (meetF (a.getD c 0) (x : Int)) t) := by
  have hg : a.getD c 0 = (y : Int) := by rw [List.getD_eq_getElem?_getD, hl]; rfl
  have hc : c < l.length := (List.getElem?_eq_some_iff.1 hx).1
  have hbm : bitB (meetF (a.getD c 0) (x : Int)) t = y.testBit t := by
    unfold bitB
    rw [hg, meet_nat hy1 hx1]
    show (y &&& x).testBit t = _
    rw [Nat.testBit_and, hb, Bool.and_true]
  rw [hbm, Bool.eq_iff_iff, Bool.and_eq_true, fits_iff, fits_iff]
  constructor
  · intro h
    have h1 := h c _ _ hl (by rw [List.getElem?_set_self hc])
    have h2 := (meet_pow hy1 ht).1 h1
    refine ⟨fun i u v hu hv => ?_, h2⟩
    by_cases e : i = c
    · subst e
      rw [hl] at hu; injection hu with hu; subst hu
      rw [hx] at hv; injection hv with hv; subst hv
      rw [meet_nat hy1 hx1]
      intro h0
      have h0' : y &&& x = 0 := by omega
      have h3 : (y &&& x).testBit t = true := by rw [Nat.testBit_and, h2, hb]; rfl
      rw [h0'] at h3
      simp at h3
    · exact h i u v hu (by rw [List.getElem?_set_ne (fun e2 => e e2.symm)]; exact hv)
  · intro ⟨h, h2⟩ i u v hu hv
    by_cases e : i = c
    · subst e
      rw [hl] at hu; injection hu with hu; subst hu
      rw [List.getElem?_set_self hc] at hv; injection hv with hv; subst hv
      exact (meet_pow hy1 ht).2 h2
    · rw [List.getElem?_set_ne (fun e2 => e e2.symm)] at hv
      exact h i u v hu hv
end Go.Ky
namespace Go.Ky
open Go.Nm
theorem spS_worst {m : Mx} {l : List Int} {c : Nat} {q : Int} (hm : mxF m = true) (hl : setsF m.st l = true) (hq : m.st[c]? = some q) : (spS m l c q.toNat).2 = worstF (remL m.rows l) c (l.getD c 0) := by
  have hc : c < l.length := by rw [sets_len' hl]; exact (List.getElem?_eq_some_iff.1 hq).1
  obtain ⟨x, hx⟩ : ∃ x, l[c]? = some x := ⟨_, List.getElem?_eq_getElem hc⟩
  have hx1 := sets_range hm hl hx
  have hxf := sets_at hl hq hx
  obtain ⟨x, rfl⟩ : ∃ n : Nat, x = (n : Int) := ⟨x.toNat, by omega⟩
  have hq1 := (chr_ok (mx_all hm).1).2.2 c q hq
  obtain ⟨n, rfl⟩ : ∃ n : Nat, q = (n : Int) := ⟨q.toNat, by omega⟩
  rw [full_nat] at hxf
  have hpn : 1 ≤ 2 ^ n := Nat.one_le_two_pow
  have hxn : x < 2 ^ n := by omega
  rw [show (n : Int).toNat = n from rfl, spS_fold hx n]
  have hg : l.getD c 0 = (x : Int) := by rw [List.getD_eq_getElem?_getD, hx]; rfl
  rw [hg]
  unfold worstF
  have hrow : ∀ r ∈ m.rows, ∃ y : Nat, r.may[c]? = some (y : Int) ∧ y ≤ 65535 := fun r hr => by
    have hr2 := (mx_all hm).2.2 r hr
    have hcr : c < r.may.length := by rw [sets_len' hr2, ← sets_len' hl]; exact hc
    have h1 := sets_range hm hr2 (List.getElem?_eq_getElem hcr)
    exact ⟨(r.may[c]).toNat, by rw [List.getElem?_eq_getElem hcr]; congr 1; omega, by omega⟩
  have key : ∀ t, t < 16 → oneN m l c x t = cntR (remL m.rows l) c (x : Int) t := fun t ht => by
    unfold oneN cntR
    cases hb : x.testBit t with
    | true =>
      rw [if_pos ((bit_iff x t).1 hb)]
      unfold aloneN remL
      rw [List.filter_filter]
      congr 2
      refine List.filter_congr fun r hr => ?_
      obtain ⟨y, hy, hy1⟩ := hrow r hr
      rw [fits_set hy hx (by omega) hy1 ht hb, Bool.and_comm]
    | false =>
      rw [if_neg (fun h => by rw [(bit_iff x t).2 h] at hb; cases hb)]
      rw [List.filter_eq_nil_iff.2]
      · rfl
      · intro r hr h
        obtain ⟨y, hy, hy1⟩ := hrow r (List.mem_filter.1 hr).1
        have hgy : r.may.getD c 0 = (y : Int) := by rw [List.getD_eq_getElem?_getD, hy]; rfl
        unfold bitB at h
        rw [hgy, meet_nat hy1 (by omega)] at h
        have h2 : (y &&& x).testBit t = true := h
        rw [Nat.testBit_and, hb, Bool.and_false] at h2
        cases h2
  have hz : ∀ t, n ≤ t → t < n + (16 - n) → oneN m l c x t = 0 := fun t h1 h2 => by
    unfold oneN
    rw [if_neg]
    intro h
    have h3 : x < 2 ^ t := Nat.lt_of_lt_of_le hxn (Nat.pow_le_pow_right (by omega) h1)
    rw [Nat.div_eq_of_lt h3] at h
    cases h
  have h16 : n + (16 - n) = 16 := by omega
  have h1 := fold_more (oneN m l c x) n (16 - n) hz
  rw [h16] at h1
  rw [← h1]
  congr 1
  exact List.map_congr_left fun t ht => key t (List.mem_range.1 ht)
end Go.Ky
