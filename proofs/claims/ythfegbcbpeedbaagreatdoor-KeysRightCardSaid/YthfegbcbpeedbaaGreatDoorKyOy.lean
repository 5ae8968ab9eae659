
/- SameKey of equal keys; the key of the examples. -/
import Derived.Test.YthfegbcbpeedbaaGreatDoorKyOv
import Derived.Deep.Cut
namespace Go.Ky
open Go.Nm
theorem sets_at {st l : List Int} (h : setsF st l = true) {c : Nat} {n x : Int} (h1 : st[c]? = some n) (h2 : l[c]? = some x) : 1 ≤ x ∧ x ≤ full n := by
  unfold setsF at h
  rw [Bool.and_eq_true] at h
  exact of_decide_eq_true ((List.all_eq_true.1 h.2) (n, x) (List.mem_of_getElem? (zip_get h1 h2)))
theorem sets_mk {st l : List Int} (hl : l.length = st.length) (h : ∀ (c : Nat) (n x : Int), st[c]? = some n → l[c]? = some x → 1 ≤ x ∧ x ≤ full n) : setsF st l = true := by
  unfold setsF
  rw [Bool.and_eq_true]
  refine ⟨decide_eq_true hl, List.all_eq_true.2 fun p hp => decide_eq_true ?_⟩
  obtain ⟨i, hi, e⟩ := List.getElem_of_mem hp
  have h2 : (st.zip l)[i]? = some p := by rw [← e]; exact List.getElem?_eq_getElem hi
  have h3 := List.getElem?_zip_eq_some.1 h2
  exact h i p.1 p.2 h3.1 h3.2
theorem sets_set {st l : List Int} (h : setsF st l = true) {c s : Nat} {n : Int} (hc : st[c]? = some n) (hs : (s : Int) < n) (hn : n ≤ 16) : setsF st (l.set c (2 ^ s)) = true := by
  refine sets_mk (by rw [List.length_set]; exact sets_len' h) fun j m x h1 h2 => ?_
  by_cases e : j = c
  · subst e
    rw [hc] at h1
    injection h1 with h1
    subst h1
    rw [List.getElem?_set_self (by rw [sets_len' h]; exact (List.getElem?_eq_some_iff.1 hc).1)] at h2
    injection h2 with h2
    subst h2
    obtain ⟨N, rfl⟩ : ∃ N : Nat, n = (N : Int) := ⟨n.toNat, by omega⟩
    rw [full_nat]
    have h3 : 2 ^ s < 2 ^ N := Nat.pow_lt_pow_right (by omega) (by omega)
    have h4 : 1 ≤ 2 ^ s := Nat.one_le_two_pow
    rw [show ((2 : Int) ^ s) = ((2 ^ s : Nat) : Int) from by simp]
    omega
  · rw [List.getElem?_set_ne (fun e2 => e e2.symm)] at h2
    exact sets_at h h1 h2
theorem full_le2 {n : Int} (h : n ≤ 16) (h0 : 0 ≤ n) : full n ≤ 65535 := by
  obtain ⟨N, rfl⟩ : ∃ N : Nat, n = (N : Int) := ⟨n.toNat, by omega⟩
  rw [full_nat]
  have := (pow16 (k := N) (by omega)).1
  omega
theorem sets_rg {st l : List Int} (hc : chrF st = true) (h : setsF st l = true) {c : Nat} {x : Int} (hx : l[c]? = some x) : 1 ≤ x ∧ x ≤ 65535 := by
  have hlt : c < st.length := by rw [← sets_len' h]; exact (List.getElem?_eq_some_iff.1 hx).1
  have h1 := sets_at h (List.getElem?_eq_getElem hlt) hx
  have h2 := (chr_ok hc).2.2 c _ (List.getElem?_eq_getElem hlt)
  have := full_le2 h2.2 (by omega)
  omega
theorem fits_at {a l : List Int} (h : fitsF a l = true) {c : Nat} {x y : Int} (h1 : a[c]? = some y) (h2 : l[c]? = some x) : meetF y x ≠ 0 := by
  unfold fitsF at h
  exact of_decide_eq_true ((List.all_eq_true.1 h) (y, x) (List.mem_of_getElem? (zip_get h1 h2)))
end Go.Ky
namespace Go.Proofs.YthfegbcbpeedbaaGreatDoor
open Go.RowKit Go.Nm Go.Ky

theorem IwC.list {W X : World} {gw n cap : Nat} {l : List Int} {c : Nat} {z : Int} (h : IwC W gw n (updP (fun i => l.getD i 0) c z) X) (hl : l.length = n) (hc : c < n) (h1 : n ≤ cap) (h2 : cap ≤ maxLen) : InSl X X.heap.size (.slice (some ⟨gw, 0, none⟩) n cap) (l.set c z) := by
  have h3 := h.sl h1 h2
  have e : (List.range n).map (updP (fun i => l.getD i 0) c z) = l.set c z := by
    apply List.ext_getElem?
    intro i
    rw [List.getElem?_map]
    by_cases hi : i < n
    · rw [List.getElem?_range hi]
      by_cases he : i = c
      · subst he
        rw [List.getElem?_set_self (by omega)]
        simp [updP]
      · rw [List.getElem?_set_ne (fun e => he e.symm), List.getElem?_eq_getElem (by omega)]
        simp [updP, he, List.getElem?_eq_getElem (show i < l.length by omega)]
    · rw [List.getElem?_eq_none (by simp; omega), List.getElem?_eq_none (by rw [List.length_set]; omega)]
      rfl
  rwa [e] at h3
set_option maxRecDepth 100000 in
set_option maxHeartbeats 32000000 in
theorem grow_any {W : World} {gk : Nat} {m : Mx} {A1 A2 : Option Addr} {c1 c2 : Nat} (hmS : InSl W W.heap.size (.slice A1 m.st.length c1) m.st) (hmx : mxF m = true) :
    ∀ (d : Nat) (R : Nat → Prop) (L : List Rw) (l : List Int) (k : Kx) (vn vl v u : Value) (X : World) (p : Nat), KgS R W gk k vn vl X → (∀ g, R g → g < X.heap.size) → Il2 X X.heap.size (fun r vm => InSl W W.heap.size vm r.may) v L → (L ≠ [] → ∀ g, v.ownBlock = some g → ¬ Ob gk vn.ownBlock vl.ownBlock g) → Apt X (Ob gk vn.ownBlock vl.ownBlock) u l →
      (∀ r ∈ L, r ∈ m.rows) → (∀ r ∈ L, fitsF r.may l = true) → setsF m.st l = true → L.length ≤ 400 → k.nd.length ≤ k.lv.length + p → p + und l ≤ 64 → k.lv.length ≤ 1000 → und l < d →
      Calls Tryz.prog 50 #[.pointer (some ⟨gk, 0, none⟩), .agg #[.slice A1 m.st.length c1, .slice A2 m.rows.length c2], v, u] X fun e Y =>
        e = .returned (.tuple #[.int .i64 (growF m d L l k).2.1, .int .i64 (growF m d L l k).2.2]) ∧ ∃ vn' vl', KgS R W gk (growF m d L l k).1 vn' vl' Y ∧ Chg (Ob gk vn.ownBlock vl.ownBlock) X Y ∧ Fro (Ob gk vn.ownBlock vl.ownBlock) (Ob gk vn'.ownBlock vl'.ownBlock) X := by
  intro d
  induction d with
  | zero => intro R L l k vn vl v u X p _ _ _ _ _ _ _ _ _ _ _ _ h; omega
  | succ d ih =>
  intro R L l k vn vl v u X p hK hR hv hvo hu hLm hfit hsl hL4 hnd hpu hlv hund
  have hchr := (mx_all hmx).1
  have hcl := sets_len' hsl
  -- the boxes
  have hb0 := below_new (w := X) (.cells #[.slice A1 m.st.length c1, .slice A2 m.rows.length c2] 25)
  have hn0 := World.alloc_heap_new X (.cells #[.slice A1 m.st.length c1, .slice A2 m.rows.length c2] 25)
  obtain ⟨X0, hX0⟩ : ∃ Z, X.alloc (.cells #[.slice A1 m.st.length c1, .slice A2 m.rows.length c2] 25) = Z := ⟨_, rfl⟩
  have hz0 : X0.heap.size = X.heap.size + 1 := by rw [← hX0]; simp
  rw [hX0] at hb0 hn0
  have hb1 := below_new (w := X0) (.cells #[v] 23)
  have hn1 := World.alloc_heap_new X0 (.cells #[v] 23)
  obtain ⟨X1, hX1⟩ : ∃ Z, X0.alloc (.cells #[v] 23) = Z := ⟨_, rfl⟩
  have hz1 : X1.heap.size = X.heap.size + 1 + 1 := by rw [← hX1]; simp [hz0]
  rw [hX1] at hb1 hn1
  rw [hz0] at hn1
  have hb2 := below_new (w := X1) (.cells #[u] 22)
  have hn2 := World.alloc_heap_new X1 (.cells #[u] 22)
  obtain ⟨X2, hX2⟩ : ∃ Z, X1.alloc (.cells #[u] 22) = Z := ⟨_, rfl⟩
  have hz2 : X2.heap.size = X.heap.size + 1 + 1 + 1 := by rw [← hX2]; simp [hz1]
  rw [hX2] at hb2 hn2
  rw [hz1] at hn2
  have hn0 := (hb2.block _ (by omega)).trans ((hb1.block _ (by omega)).trans hn0)
  have hn1 := (hb2.block _ (by omega)).trans hn1
  have hB2 : Below X.heap.size X X2 := hb0.trans ((hb1.trans (hb2.mono hb1.size)).mono hb0.size)
  have hOlt : ∀ g, Ob gk vn.ownBlock vl.ownBlock g → g < X.heap.size := fun g hg => by
    obtain ⟨nv, o1, _⟩ := hK.own
    obtain ⟨lv, o2, _⟩ := hK.lwn
    rcases hg with h1 | h1 | h1
    · rw [h1]; exact (Array.getElem?_eq_some_iff.1 hK.box).1
    · exact (o1.lt g h1).2
    · exact (o2.lt g h1).2
  have hG2 : GwS W X.heap.size (.slice A1 m.st.length c1) (.slice A2 m.rows.length c2) v u L l (Ob gk vn.ownBlock vl.ownBlock) X2 :=
    ⟨hn0, hn1, hn2, ⟨fun h => by have := hOlt _ h; omega, fun h => by have := hOlt _ h; omega, fun h => by have := hOlt _ h; omega⟩, hv.chg (Chg.of_below hB2) hvo, hvo, hu.chg (Chg.of_below hB2) (Fro.refl _ _)⟩
  have HK2 := Lib.hid (hK.step hB2)
  have HG2 := Lib.hid hG2
  have HB2 := Lib.hid hB2
  have HW := Lib.hid (And.intro hX0 (And.intro hX1 hX2))
  have hIl : ∀ Y, Below W.heap.size W Y → ∀ v L, Il2 Y Y.heap.size (fun r vm => InSl W W.heap.size vm r.may) v L → IlSl Y Y.heap.size v L := fun Y hY v L h => h.ilSl (fun r vm hr => (hr.below hY).mono hY.size)
  have HIl := Lib.hid hIl
  have hbest := bestG_any (X.heap.size + 1) (X.heap.size + 1 + 1) v u L l (fun c => usefulF L c (l.getD c 0)) X2 (hIl X2 (hK.step hB2).bel v L hG2.rv) hG2.ua.1 (by omega) (by have := (chr_ok hchr).2.1; omega)
    (fun q x hq => by have := sets_rg hchr hsl hq; omega)
    (fun r hr c hc => by
      have hr2 := (mx_all hmx).2.2 r (hLm r hr)
      have hcr : c < r.may.length := by rw [sets_len' hr2]; omega
      have := sets_rg hchr hr2 (List.getElem?_eq_getElem hcr)
      exact ⟨_, List.getElem?_eq_getElem hcr, by omega, by omega⟩)
    (fun Y hY c x hx => by
      have hG := hG2.chg (Chg.of_below hY) (Fro.refl _ _)
      have hBY := (hK.step hB2).bel.trans (hY.mono (hK.step hB2).bel.size)
      have hcl2 := (List.getElem?_eq_some_iff.1 hx).1
      exact grow1_any (X.heap.size + 1) (X.heap.size + 1 + 1) v u L l c Y hG.r0 hG.s0 (hIl Y hBY v L hG.rv) hG.ua.1 (by omega) (by have := (chr_ok hchr).2.1; omega) hcl2 (fun r hr => by
        have hr2 := (mx_all hmx).2.2 r (hLm r hr)
        have := sets_len' hr2
        have := (chr_ok hchr).2.1
        omega))
  have HBest := Lib.hid (show Calls Tryz.prog 44 _ X2 fun e w' => e = .returned (.tuple #[.int .i64 (charF L l).1, .bool (charF L l).2.1]) ∧ Below X2.heap.size X2 w' from hbest)
  have HCh := Lib.hid (fun h : (charF L l).2.1 = true => best_ok (L := L) (l := l) (P := fun c => usefulF L c (l.getD c 0)) l.length h)
  have HCond := Lib.hid (And.intro hLm (And.intro hfit (And.intro hsl (And.intro hL4 (And.intro hnd (And.intro hpu (And.intro hlv hund)))))))
  have HIh := Lib.hid ih
  have HRl := Lib.hid hR
  have HMx := Lib.hid (And.intro hmx (And.intro hchr hcl))
  have HOlt := Lib.hid hOlt
  have HSt := Lib.hid (fun Y (h : Below W.heap.size W Y) => show InA Y Y.heap.size A1 m.st from by
    obtain ⟨_, _, e, _, _, h⟩ := hmS.step h; cases e; exact h)
  obtain ⟨ns0, hns0⟩ : ∃ n, m.st.length = n := ⟨_, rfl⟩
  obtain ⟨nr0, hnr0⟩ : ∃ n, m.rows.length = n := ⟨_, rfl⟩
  have HNs := Lib.hid (And.intro hns0 hnr0)
  rw [hns0, hnr0] at HW HG2
  simp only [hns0, hnr0] at HIh
  obtain ⟨nn, hnn⟩ : ∃ n, k.nd.length = n := ⟨_, rfl⟩
  obtain ⟨_, ho1, _⟩ := hK.own
  obtain ⟨_, ho2, _⟩ := hK.lwn
  obtain ⟨An, cn, hvn⟩ := own_slice_form ho1
  obtain ⟨Al, cl, hvl⟩ := own_slice_form ho2
  subst hvn; subst hvl
  obtain ⟨Av, cv, rfl⟩ := hv.form
  obtain ⟨Au, cu, rfl, _⟩ := hu.1.form
  obtain ⟨nv, hnv⟩ : ∃ n, L.length = n := ⟨_, rfl⟩
  obtain ⟨nu, hnu⟩ : ∃ n, l.length = n := ⟨_, rfl⟩
  have HNu := Lib.hid (And.intro hnv hnu)
  obtain ⟨m0, m1⟩ := cells_two HG2.out.m0
  have r0 := cell_one HG2.out.r0
  have s0 := cell_one HG2.out.s0
  rw [hnv, hnu] at HW HG2 HBest
  rw [hnv] at r0
  rw [hnu] at s0
  rw [hns0, hnr0, hnv, hnu]
  rw [hnn] at HK2 HG2 ⊢
  have HNn := Lib.hid hnn
  clear hK hR hv hvo hu hLm hfit hsl hL4 hnd hpu hlv hund hb0 hn0 hX0 hz0 hb1 hn1 hX1 hz1 hb2 hn2 hX2 hz2 hB2 hOlt hG2 hIl hbest ih hmx hchr hcl hns0 hnr0 ho1 ho2 hnv hnu hnn
  go_enter Tryz.func50, Tryz.ntmps50
  go_wp2_with fail
  rw [HW.out.1, HW.out.2.1, HW.out.2.2]
  (try go_wp2_with fail)
  (with_reducible refine HBest.out.mono ?_)
  rintro e w1 ⟨rfl, hb⟩
  have HB3 := Lib.hid (HB2.out.trans (hb.mono HB2.out.size))
  have HK3 := Lib.hid (HK2.out.step hb)
  have HG3 := Lib.hid (HG2.out.chg (Chg.of_below hb) (Fro.refl _ _))
  clear hb m0 m1 r0 s0 HBest HW
  have HIx := Lib.hid (HIl.out w1 HK3.out.bel _ L HG3.out.rv)
  cases hf : (charF L l).2.1 with
  | false =>
    have HF := Lib.hid (grow_leaf (m := m) (d := d) (k := k) hf)
    have HLf := Lib.hid (growLeaf_any _ L HK3.out HIx.out (by have := HCond.out.2.2.2.1; omega) HCond.out.2.2.2.2.2.2.1 (fun g h => Nat.lt_of_lt_of_le (HRl.out g h) HB3.out.size))
    have r0 := cell_one HG3.out.r0
    clear hf
    go_wp2_with fail
    (with_reducible refine HLf.out.mono ?_)
    rintro e w2 (⟨hq, rfl, rfl⟩ | ⟨hq, rfl, vl', h1, h2, h3⟩)
    · have HQ := Lib.hid hq
      clear hq
      go_wp2_with fail
      go_ret2
      refine ⟨by rw [HF.out, if_pos HQ.out]; rfl, _, _, ?_, Chg.of_below HB3.out, Fro.refl _ _⟩
      rw [HF.out, if_pos HQ.out]
      exact HK3.out
    · have HR := Lib.hid (And.intro hq (And.intro h1 (And.intro h2 h3)))
      clear hq h1 h2 h3
      go_wp2_with fail
      go_ret2
      refine ⟨by rw [HF.out, if_neg HR.out.1]; rfl, _, vl', ?_, (Chg.of_below HB3.out).trans2 (Fro.refl _ _) HR.out.2.2.1, (Fro.refl _ _).trans HB3.out.size HR.out.2.2.2⟩
      rw [HF.out, if_neg HR.out.1]
      exact HR.out.2.1
  | true =>
    obtain ⟨c, hcl, hc, hus⟩ := HCh.out hf
    have hc2 : (charF L l).1 = (c : Int) := hc
    have HGn := Lib.hid (grow_node (m := m) (d := d) (k := k) hf hc2)
    rw [hc2]
    have hcs : c < m.st.length := by have := HMx.out.2.2; omega
    have hrg := (chr_ok HMx.out.2.1).2.2 c _ (List.getElem?_eq_getElem hcs)
    obtain ⟨ns, hns⟩ : ∃ ns : Nat, m.st[c] = (ns : Int) := ⟨m.st[c].toNat, by omega⟩
    have hns2 : 2 ≤ ns ∧ ns ≤ 16 := by omega
    have HNc := Lib.hid (show m.st[c]? = some (ns : Int) from by rw [← hns]; exact List.getElem?_eq_getElem hcs)
    have HNd := Lib.hid (show (m.st.getD c 0).toNat = ns from by rw [List.getD_eq_getElem?_getD, HNc.out]; simp)
    rw [HNd.out] at HGn
    obtain ⟨xs, ad1, hx1, rfl, _, _⟩ := (HSt.out w1 HK3.out.bel).at_ rfl hcs
    have HSc := Lib.hid (fun Y (h : Below W.heap.size W Y) => show Y.cell? (ad1.add c) = some (.int .i64 (ns : Int)) from by
      obtain ⟨y', ad', hy', e, _, hc'⟩ := (HSt.out Y h).at_ rfl hcs
      injection e with e
      subst e
      rw [HNc.out] at hy'; injection hy' with hy'; subst hy'
      exact hc')
    have hcn0 : c < ns0 := by have := HNs.out.1; omega
    have hcnu : c < nu := by have := HNu.out.2; omega
    have HUs := Lib.hid (show und (l.set c 1) + 1 = und l from by
      have hx : l[c]? = some l[c] := List.getElem?_eq_getElem hcl
      have h2 := sets_rg HMx.out.2.1 HCond.out.2.2.1 hx
      refine und_set l c l[c] 1 hx (useful_und h2 (fun r hr => ?_) (by rw [show l.getD c 0 = l[c] from by rw [List.getD_eq_getElem?_getD, hx]; rfl] at hus; exact hus)) (by decide)
      have hr2 := (mx_all HMx.out.1).2.2 r (HCond.out.1 r hr)
      have hcr : c < r.may.length := by rw [sets_len' hr2]; omega
      have h3 := sets_rg HMx.out.2.1 hr2 (List.getElem?_eq_getElem hcr)
      exact ⟨_, List.getElem?_eq_getElem hcr, h3.1, h3.2, fits_at (HCond.out.2.1 r hr) (List.getElem?_eq_getElem hcr) hx⟩)
    have HUd := Lib.hid (fun (s : Nat) (hs : s < 16) => show und (l.set c (2 ^ s)) + 1 = und l from by
      have hx : l[c]? = some l[c] := List.getElem?_eq_getElem hcl
      have h2 := sets_rg HMx.out.2.1 HCond.out.2.2.1 hx
      refine und_set l c l[c] _ hx (useful_und h2 (fun r hr => ?_) (by rw [show l.getD c 0 = l[c] from by rw [List.getD_eq_getElem?_getD, hx]; rfl] at hus; exact hus)) (dec_pow hs)
      have hr2 := (mx_all HMx.out.1).2.2 r (HCond.out.1 r hr)
      have hcr : c < r.may.length := by rw [sets_len' hr2]; omega
      have h3 := sets_rg HMx.out.2.1 hr2 (List.getElem?_eq_getElem hcr)
      exact ⟨_, List.getElem?_eq_getElem hcr, h3.1, h3.2, fits_at (HCond.out.2.1 r hr) (List.getElem?_eq_getElem hcr) hx⟩)
    -- a further node
    have HKT := Lib.hid (HK3.out.step (below_new (.cells #[.int .i64 (c : Int), .slice none 0 0] 55)))
    obtain ⟨nvals, o1, E1⟩ := HKT.out.own
    have HO1 := Lib.hid (And.intro o1 E1)
    have hn5 : k.nd.length ≤ 100000 := by have := HNn.out; have := HCond.out.2.2.2.2.1; have := HCond.out.2.2.2.2.2.1; have := HCond.out.2.2.2.2.2.2.1; omega
    obtain ⟨g0, g1⟩ := cells_two HK3.out.box
    have HCl := Lib.hid (And.intro hcl (And.intro hcs hcn0))
    clear hf hc hc2 hus hcs hrg hns hx1 o1 E1 hcl HUs
    go_upto_region 6 with (at_builtin; refine wpList_app_nd rfl _ _ rfl rfl HO1.out.1 HKT.out.bel.size w1.heap.size rfl (World.alloc_heap_new _ _) hn5 ?_; intro v5 w5 ho5 hg5 hob5; obtain ⟨A5, c5, rfl⟩ := own_slice_form ho5; obtain ⟨hYb, hS5, hC5, hF5⟩ := HKT.out.node HO1.out.2 hg5 ho5 hob5; obtain ⟨y0, y1⟩ := cells_two hYb; have yf := frozen_cells hYb 0; have HS5 := Lib.hid (And.intro hS5 (And.intro hC5 hF5)); clear ho5 hg5 hob5 hYb hS5 hC5 hF5)
    obtain ⟨Z1, hZ1⟩ : ∃ Z, w5.setCell ⟨gk, 0, none⟩ (.slice A5 (k.nd.length + 1) c5) = Z := ⟨_, rfl⟩
    (try rw [hZ1])
    have HS1 := Lib.hid (show KgS R W gk ⟨k.nd ++ [⟨(c : Int), []⟩], k.lv⟩ (.slice A5 (k.nd.length + 1) c5) _ Z1 from by rw [← hZ1]; exact HS5.out.1)
    have HC1 := Lib.hid (show Chg _ _ Z1 from by rw [← hZ1]; exact HS5.out.2.1)
    have HF1 := Lib.hid HS5.out.2.2
    have HG1 := Lib.hid ((HG3.out.chg (Chg.of_below (below_new (.cells #[.int .i64 (c : Int), .slice none 0 0] 55))) (Fro.refl _ _)).chg HC1.out HF1.out)
    obtain ⟨m0, m1⟩ := cells_two HG1.out.m0
    have hsc := HSc.out Z1 HS1.out.bel
    clear y0 y1 yf HS5 g0 g1 hZ1
    have hns1 : ns ≤ 1000000 := by omega
    go_upto_region 7 with (refine wpList_make_ints rfl _ _ rfl ns rfl rfl hns1 ?_; intro ca hca1 hca2; have HI0 := Lib.hid (IwI.start (W := Z1) hca1 hca2); clear hca1 hca2)
    obtain ⟨Z2, hZ2⟩ : ∃ Z, Z1.alloc (.cells ca 3) = Z := ⟨_, rfl⟩
    have hbZ := below_new (w := Z1) (.cells ca 3)
    rw [hZ2] at HI0 hbZ ⊢
    obtain ⟨gx, hgx⟩ : ∃ g, Z1.heap.size = g := ⟨_, rfl⟩
    have HS2 := Lib.hid (show KgS (fun g => R g ∨ g = gx) W gk _ _ _ Z2 from (HS1.out.more (g0 := gx) (by omega)).step hbZ)
    have HG2 := Lib.hid (HG1.out.chg (Chg.of_below hbZ) (Fro.refl _ _))
    have HI2 := Lib.hid (HI0.out.low HS1.out.bel)
    have hOg : ¬ Ob gk (Value.ownBlock (.slice A5 (k.nd.length + 1) c5)) (Value.ownBlock (.slice Al _ cl)) gx := fun h => by
      obtain ⟨_, oa, _⟩ := HS1.out.own
      obtain ⟨_, ob, _⟩ := HS1.out.lwn
      have h4 := (Array.getElem?_eq_some_iff.1 HS1.out.box).1
      rcases h with h1 | h1 | h1
      · omega
      · have := (oa.lt gx h1).2; omega
      · have := (ob.lt gx h1).2; omega
    have HOg := Lib.hid hOg
    have HCx := Lib.hid (show Chg (Ob gk (Value.ownBlock (.slice An nn cn)) (Value.ownBlock (.slice Al _ cl))) X Z1 from (Chg.of_below (HB3.out.trans ((below_new (w := w1) (.cells #[.int .i64 (c : Int), .slice none 0 0] 55)).mono HB3.out.size))).trans2 (Fro.refl _ _) HC1.out)
    have HZ12 := Lib.hid (And.intro hbZ (show Z2.heap.size = gx + 1 from by rw [← hgx, ← hZ2]; simp))
    have HFx := Lib.hid ((Fro.refl _ _).trans (HB3.out.trans ((below_new (w := w1) (.cells #[.int .i64 (c : Int), .slice none 0 0] 55)).mono HB3.out.size)).size HF1.out)
    rw [hgx] at HI2 ⊢
    have HGx := Lib.hid hgx
    clear m0 m1 hsc hZ2 hbZ hgx hOg HI0
    obtain ⟨m0, m1⟩ := cells_two HG2.out.m0
    have hsc := HSc.out Z2 HS2.out.bel
    go_wp2_with fail
    clear m0 m1 hsc
    have HGa := Lib.hid (fun s => gaK_all (m := m) (d := d) (c := c) (L := L) (l := l) (k := k) (grK (fun c n h => ((chr_ok HMx.out.2.1).2.2 c n h).1) d) HMx.out.2.2 s)
    obtain ⟨O1, hO1⟩ : ∃ O, Ob gk (Value.ownBlock (.slice A5 (k.nd.length + 1) c5)) (Value.ownBlock (.slice Al k.lv.length cl)) = O := ⟨_, rfl⟩
    have HO1 := Lib.hid hO1
    rw [hO1] at HG1 HOg HFx
    clear hO1
    go_loopw [59] (fun iv wr => ∃ (s : Nat) (vn' vl' : Value) (f : Nat → Int), iv = .int .i64 (s : Int) ∧ s ≤ ns ∧ (gAll m d L l c k s).2.2 = 0 ∧ KgS (fun g => R g ∨ g = gx) W gk (gAll m d L l c k s).1 vn' vl' wr ∧ Chg O1 Z1 wr ∧ Fro O1 (Ob gk vn'.ownBlock vl'.ownBlock) Z2 ∧ IwI W gx ns f wr ∧ ∀ (j : Nat) (x : Int), (gAll m d L l c k s).2.1[j]? = some x → f j = x) (fun iv _ => ns - (intOf iv).toNat)
    case atStart => exact ⟨0, _, _, _, rfl, by omega, rfl, HS2.out, Chg.of_below HZ12.out.1, by rw [← HO1.out]; exact Fro.refl _ _, HI2.out, fun j x h => by rw [gAll_zero] at h; simp at h⟩
    case round =>
      obtain ⟨s, vn', vl', f, rfl, hsn, h0, hKs, hCs, hFs, hIs, hfs⟩ := hrel
      have hFs1 : Fro O1 (Ob gk vn'.ownBlock vl'.ownBlock) Z1 := fun g hg => (hFs g hg).imp id (fun h => Nat.le_trans HZ12.out.1.size h)
      have HGw := Lib.hid (HG1.out.chg hCs hFs1)
      have HF1s := Lib.hid hFs1
      clear hFs1
      have HFf := Lib.hid hfs
      have HCs := Lib.hid (And.intro hCs hFs)
      have HIs := Lib.hid hIs
      have HXw := Lib.hid (show X.heap.size ≤ wr.heap.size from Nat.le_trans HCx.out.1 hCs.1)
      have HKs := Lib.hid hKs
      have HGas := Lib.hid (HGa.out s)
      obtain ⟨st, hst⟩ : ∃ st, gAll m d L l c k s = st := ⟨_, rfl⟩
      have h0' := h0
      rw [hst] at h0'
      have HSt0 := Lib.hid (And.intro hst h0')
      rw [hst] at HFf HKs HGas
      clear h0'
      clear hKs hCs hFs hIs hfs hst h0
      by_cases hlt : s < ns
      · have HCl2 := Lib.hid (clone_any _ l wr HGw.out.ua.1 (by have := HNu.out.2; have := HMx.out.2.2; have := (chr_ok HMx.out.2.1).2.1; omega))
        have s0 := cell_one HGw.out.s0
        go_wp2_with fail
        (with_reducible refine HCl2.out.mono ?_)
        rintro e wc ⟨r, rfl, hO⟩
        have hO2 := hO.iwc (by have := HNu.out.2; omega)
        rw [HNu.out.2] at hO2
        obtain ⟨gs, cs, rfl, hcs1, hcs2, hI⟩ := hO2
        have HIc := Lib.hid hI
        have HSo := Lib.hid (setOf_any s wc (by omega))
        have c0 := hI.cell hcnu
        have cf := hI.froz c
        have hI3 := hI.set c (2 ^ s)
        obtain ⟨Zk, hZk⟩ : ∃ Z, wc.setCell ⟨gs, c, none⟩ (.int .i64 (2 ^ s)) = Z := ⟨_, rfl⟩
        rw [hZk] at hI3
        have HZk := Lib.hid hZk
        have HBk := Lib.hid hI3.bel
        have HUk := Lib.hid (hI3.list HNu.out.2 hcnu hcs1 hcs2)
        have HGs := Lib.hid hI3.base
        clear hO hI hI3 hZk s0 hcs1 hcs2
        go_wp2_with fail
        (with_reducible refine HSo.out.mono ?_)
        rintro e w8 ⟨rfl, rfl⟩
        go_wp2_with fail
        rw [HZk.out]
        have HKz := Lib.hid (HKs.out.step HBk.out)
        have HGz := Lib.hid (HGw.out.chg (Chg.of_below HBk.out) (Fro.refl _ _))
        have HIz := Lib.hid (HIs.out.kept (grown_of_below HBk.out none) (fun _ e => nomatch e))
        have HOz := Lib.hid (show ∀ g, Ob gk vn'.ownBlock vl'.ownBlock g → g < wr.heap.size from fun g hg => by
          obtain ⟨_, oa, _⟩ := HKs.out.own
          obtain ⟨_, ob, _⟩ := HKs.out.lwn
          rcases hg with h1 | h1 | h1
          · rw [h1]; exact (Array.getElem?_eq_some_iff.1 HKs.out.box).1
          · exact (oa.lt g h1).2
          · exact (ob.lt g h1).2)
        obtain ⟨lk, hlk⟩ : ∃ lk, l.set c (2 ^ s) = lk := ⟨_, rfl⟩
        have HLk := Lib.hid (show setsF m.st lk = true ∧ lk.length = l.length ∧ und lk + 1 = und l from by
          rw [← hlk]
          exact ⟨sets_set HCond.out.2.2.1 HNc.out (by omega) (by omega), List.length_set, HUd.out s (by omega)⟩)
        rw [hlk] at HUk
        have HUa := Lib.hid (show ∀ g, (Value.slice (some ⟨gs, 0, none⟩) nu cs).ownBlock = some g → ¬ Ob gk vn'.ownBlock vl'.ownBlock g from fun g e h => by
          have e2 : gs = g := by simpa [Value.ownBlock] using e
          have h1 := HOz.out g h
          have h2 := HGs.out
          omega)
        obtain ⟨gg, hgg⟩ : ∃ g, growF m d (remL L lk) lk st.1 = g := ⟨_, rfl⟩
        have HGg := Lib.hid (show gAll m d L l c k (s + 1) = if gg.2.2 = 0 then (gg.1, st.2.1 ++ [gg.2.1], 0) else (gg.1, st.2.1, gg.2.2) from by
          rw [gAll_succ, HSt0.out.1]
          unfold gStep
          rw [if_pos HSt0.out.2, hlk, hgg])
        have HRem := Lib.hid (fun Y (h : Below Zk.heap.size Zk Y) => remaining2_any (fun r vm => InSl W W.heap.size vm r.may) (.slice Av nv cv) (.slice (some ⟨gs, 0, none⟩) nu cs) L lk Y (HGz.out.rv.chg (Chg.of_below (O := Ob gk vn'.ownBlock vl'.ownBlock) h) HGz.out.vo) (HIl.out Y (HKz.out.bel.trans (h.mono HKz.out.bel.size)) _ L (HGz.out.rv.chg (Chg.of_below (O := Ob gk vn'.ownBlock vl'.ownBlock) h) HGz.out.vo)) (HUk.out.step h) (fun r hr => by
          have hr2 := (mx_all HMx.out.1).2.2 r (HCond.out.1 r hr)
          rw [HLk.out.2.1, HMx.out.2.2, sets_len' hr2]) (by have := HCond.out.2.2.2.1; omega) (by have := HLk.out.2.1; have := HMx.out.2.2; have := (chr_ok HMx.out.2.1).2.1; omega))
        have HIc2 := Lib.hid (fun Y (h : Below Zk.heap.size Zk Y) (v4 : Value) (hv4 : Il2 Y Y.heap.size (fun r vm => InSl W W.heap.size vm r.may) v4 (remL L lk)) (hf4 : ∀ g, v4.ownBlock = some g → Zk.heap.size ≤ g) =>
          HIh.out (fun g => R g ∨ g = gx) (remL L lk) lk st.1 vn' vl' v4 (.slice (some ⟨gs, 0, none⟩) nu cs) Y (p + 1) (HKz.out.step h) (fun g hg => by
            have e1 := HBk.out.size
            have e2 := h.size
            rcases hg with hg | hg
            · have e3 := HRl.out g hg
              have e4 := HXw.out
              omega
            · have e3 := HIs.out.lt
              omega) hv4 (fun _ g e h2 => by have := hf4 g e; have := HOz.out g h2; have := HBk.out.size; omega) ⟨HUk.out.step h, fun _ => HUa.out⟩
            (fun r hr => HCond.out.1 r (List.mem_filter.1 hr).1) (fun r hr => (List.mem_filter.1 hr).2) HLk.out.1 (Nat.le_trans (List.length_filter_le _ _) HCond.out.2.2.2.1)
            (by have := HGas.out.slk HSt0.out.2; have := HCond.out.2.2.2.2.1; omega) (by have := HLk.out.2.2; have := HCond.out.2.2.2.2.2.1; omega) (HGas.out.max HCond.out.2.2.2.2.2.2.1) (by have := HLk.out.2.2; have := HCond.out.2.2.2.2.2.2.2; omega))
        rw [hgg] at HIc2
        clear hlk hgg
        refine wp_opaque ?_
        intro t0 ht0
        have hsz0 : t0.size = 96 := by rw [ht0]; rfl
        have q0 : t0.getD 0 undef = .pointer (some ⟨gk, 0, none⟩) := by rw [ht0]; rfl
        have q5 : t0.getD 5 undef = .pointer (some ⟨X.heap.size, 0, none⟩) := by rw [ht0]; rfl
        have q6 : t0.getD 6 undef = .pointer (some ⟨X.heap.size + 1, 0, none⟩) := by rw [ht0]; rfl
        have q15 : t0.getD 15 undef = .slice (some ⟨gs, 0, none⟩) nu cs := by rw [ht0]; rfl
        have HT0 := Lib.hid ht0
        clear ht0 c0 cf HCl2 HSo
        have HBd := Lib.hid (fun Z (hI : Below Zk.drew.heap.size Zk.drew Z) => (Below.refl Zk.heap.size Zk).drew.trans hI)
        refine wp_region_vals [some 70, some 71, some 72, some 73, some 74, some 75, some 76, some 69, some 77, some 78, some 16, some 17] (GrI Zk.drew (.pointer (some ⟨gk, 0, none⟩)) (.agg #[.slice (some ad1) ns0 c1, .slice A2 nr0 c2]) (.slice Av nv cv) (.slice (some ⟨gs, 0, none⟩) nu cs) (.tuple #[.int .i64 gg.2.1, .int .i64 gg.2.2]) (.int .i64 gg.2.1) (.int .i64 gg.2.2)
          (fun v4 Z => Il2 Z Z.heap.size (fun r vm => InSl W W.heap.size vm r.may) v4 (remL L lk) ∧ ∀ g, v4.ownBlock = some g → Zk.heap.size ≤ g)
          (fun Z => ∃ vn2 vl2, KgS (fun g => R g ∨ g = gx) W gk gg.1 vn2 vl2 Z ∧ Chg (Ob gk vn'.ownBlock vl'.ownBlock) Zk Z ∧ Fro (Ob gk vn'.ownBlock vl'.ownBlock) (Ob gk vn2.ownBlock vl2.ownBlock) Zk)) (by kernel_rfl) (by kernel_rfl) rfl rfl (by simp [hsz0]) (by kernel_rfl) ?_ ?_ ?_
        · intro val
          exact ⟨(fun h => nomatch h), (fun h => nomatch h), (fun h => nomatch h), (fun h => nomatch h), (fun h => nomatch h), (fun h => nomatch h), (fun h => nomatch h), (fun h => nomatch h), (fun h => nomatch h), (fun h => nomatch h), fun _ => Below.refl _ _, (fun h => nomatch h), (fun h => nomatch h), (fun h => nomatch h)⟩
        · intro dn q o hi hd hp hc val Z a ha hn' hI K hK
          have hq : q < 12 := by
            have := (Array.getElem?_eq_some_iff.1 hi).1
            simpa using this
          have k6 : dn 6 = true → dn 0 = true ∧ dn 1 = true ∧ dn 4 = true ∧ dn 5 = true := fun h => ⟨hc 6 _ rfl h ⟨0, .data⟩ (by simp) rfl, hc 6 _ rfl h ⟨1, .data⟩ (by simp) rfl, hc 6 _ rfl h ⟨4, .data⟩ (by simp) rfl, hc 6 _ rfl h ⟨5, .data⟩ (by simp) rfl⟩
          have k4 : dn 4 = true → dn 2 = true ∧ dn 3 = true := fun h => ⟨hc 4 _ rfl h ⟨2, .data⟩ (by simp) rfl, hc 4 _ rfl h ⟨3, .data⟩ (by simp) rfl⟩
          have bf : ∀ {q : Bool}, (q = true → False) → q = false := fun {q} h => by cases q; rfl; exact (h rfl).elim
          have hB := fun n6 => HBd.out Z (hI.bel n6)
          have hG := fun n6 => HGz.out.chg (Chg.of_below (hB n6)) (Fro.refl _ _)
          rcases (show q = 0 ∨ q = 1 ∨ q = 2 ∨ q = 3 ∨ q = 4 ∨ q = 5 ∨ q = 6 ∨ q = 7 ∨ q = 8 ∨ q = 9 ∨ q = 10 ∨ q = 11 by omega) with rfl | rfl | rfl | rfl | rfl | rfl | rfl | rfl | rfl | rfl | rfl | rfl
          · obtain rfl := Option.some.inj hi
            exact opMove 0 _ rfl ((ha 0).trans q0) (hK _ _ hI.op0)
          · obtain rfl := Option.some.inj hi
            have n6 : dn 6 = false := bf fun h => f_t hd (k6 h).2.1
            exact opLdMx 5 _ _ _ rfl ((ha 5).trans q5) (hG n6).m0 (hK _ _ hI.op1)
          · obtain rfl := Option.some.inj hi
            have n6 : dn 6 = false := bf fun h => f_t hd (k4 (k6 h).2.2.1).1
            exact opLdRs 6 _ _ rfl ((ha 6).trans q6) (cell_one (hG n6).r0) (hK _ _ hI.op2)
          · obtain rfl := Option.some.inj hi
            exact opMove 15 _ rfl ((ha 15).trans q15) (hK _ _ hI.op3)
          · obtain rfl := Option.some.inj hi
            have y2 := hp ⟨2, .data⟩ (by simp) rfl
            have y3 := hp ⟨3, .data⟩ (by simp) rfl
            have n6 : dn 6 = false := bf fun h => f_t hd (k6 h).2.2.1
            refine opCallRm 72 73 _ _ _ rfl ((ha 72).trans (hI.s2 y2)) ((ha 73).trans (hI.s3 y3)) (HRem.out Z (hB n6)) ?_
            rintro e Y ⟨⟨vs, rfl, hv4, hf4⟩, hb⟩
            exact ⟨vs, rfl, hK _ _ (hI.op4 n6 hb ⟨hv4, fun g e => Nat.le_trans (hB n6).size (hf4 g e).1⟩)⟩
          · obtain rfl := Option.some.inj hi
            exact opMove 15 _ rfl ((ha 15).trans q15) (hK _ _ hI.op5)
          · obtain rfl := Option.some.inj hi
            have y0 := hp ⟨0, .data⟩ (by simp) rfl
            have y1 := hp ⟨1, .data⟩ (by simp) rfl
            have y4 := hp ⟨4, .data⟩ (by simp) rfl
            have y5 := hp ⟨5, .data⟩ (by simp) rfl
            have h4 := hI.e4 y4 hd
            refine opCallGr 70 71 74 75 _ _ _ _ _ rfl ((ha 70).trans (hI.s0 y0)) ((ha 71).trans (hI.s1 y1)) (ha 74) ((ha 75).trans (hI.s5 y5)) (HIc2.out Z (hB hd) (val 4) h4.1 h4.2) ?_
            rintro e Y ⟨rfl, vn2, vl2, r1, r2, r3⟩
            exact ⟨_, rfl, hK _ _ (hI.op6 ⟨vn2, vl2, r1, (Chg.of_below (hB hd)).trans2 (Fro.refl _ _) r2, (Fro.refl _ _).trans (hB hd).size r3⟩)⟩
          · obtain rfl := Option.some.inj hi
            have y6 := hp ⟨6, .data⟩ (by simp) rfl
            exact opMove 76 _ rfl ((ha 76).trans (hI.s6 y6)) (hK _ _ hI.op7)
          · obtain rfl := Option.some.inj hi
            have y7 := hp ⟨7, .data⟩ (by simp) rfl
            exact opExt0 69 _ _ rfl ((ha 69).trans (hI.s7 y7)) (hK _ _ hI.op8)
          · obtain rfl := Option.some.inj hi
            have y7 := hp ⟨7, .data⟩ (by simp) rfl
            exact opExt1 69 _ _ rfl ((ha 69).trans (hI.s7 y7)) (hK _ _ hI.op9)
          · obtain rfl := Option.some.inj hi
            have y8 := hp ⟨8, .data⟩ (by simp) rfl
            exact opAssign 77 _ rfl ((ha 77).trans (hI.s8 y8)) (hK _ _ hI.op10)
          · obtain rfl := Option.some.inj hi
            have y9 := hp ⟨9, .data⟩ (by simp) rfl
            exact opAssign 78 _ rfl ((ha 78).trans (hI.s9 y9)) (hK _ _ hI.op11)
        · intro dn val Z hdn hI
          obtain ⟨vn2, vl2, r1, r2, r3⟩ := hI.e6 (hdn 6 (by simp))
          have h10 := hI.s10 (hdn 10 (by simp))
          have h11 := hI.s11 (hdn 11 (by simp))
          have HR := Lib.hid (And.intro r1 (And.intro r2 r3))
          simp only [wrS, HT0.out]
          simp only [List.setIfInBounds_toArray, List.set_cons_succ, List.set_cons_zero]
          rw [h10, h11]
          simp only [Exit.then]
          clear hdn hI r1 r2 r3 h10 h11 q0 q5 q6 q15 hsz0 HT0
          generalize val 0 = x0
          generalize val 1 = x1
          generalize val 2 = x2
          generalize val 3 = x3
          generalize val 4 = x4
          generalize val 5 = x5
          generalize val 6 = x6
          generalize val 7 = x7
          generalize val 8 = x8
          generalize val 9 = x9
          have HZb := Lib.hid (HR.out.1.bel)
          have hgo : ¬ Ob gk vn'.ownBlock vl'.ownBlock gx := fun h => by
            rcases HCs.out.2 gx h with h1 | h1
            · exact HOg.out h1
            · have := HI2.out.lt; omega
          have HIy := Lib.hid (HIz.out.chg HR.out.2.1 HZb.out hgo)
          have hgo2 : ¬ Ob gk vn2.ownBlock vl2.ownBlock gx := fun h => by
            rcases HR.out.2.2 gx h with h1 | h1
            · exact hgo h1
            · have := HIz.out.lt; omega
          have HCy := Lib.hid (show Chg O1 Z1 Z from (HCs.out.1.trans2 HF1s.out (Chg.of_below HBk.out)).trans2 HF1s.out HR.out.2.1)
          have HFy := Lib.hid (show Fro O1 (Ob gk vn2.ownBlock vl2.ownBlock) Z2 from HCs.out.2.trans (by have := HIs.out.lt; have := HZ12.out.2; have := HBk.out.size; omega) HR.out.2.2)
          obtain ⟨ev, hev⟩ : ∃ e, gg.2.2 = e := ⟨_, rfl⟩
          obtain ⟨nv2, hnv2⟩ : ∃ e, gg.2.1 = e := ⟨_, rfl⟩
          rw [hev, hnv2] at HGg ⊢
          by_cases he : ev = 0
          · subst he
            have HGh := Lib.hid (show gAll m d L l c k (s + 1) = (gg.1, st.2.1 ++ [nv2], 0) from by rw [HGg.out, if_pos rfl])
            have p0 := HIy.out.cell hlt
            have pf := HIy.out.froz s
            have HI9 := Lib.hid (HIy.out.set s nv2)
            have HK9 := Lib.hid (HR.out.1.outR (setCell_grown' Z gx s (.int .i64 nv2)) (fun g e => by cases e; exact ⟨.inr rfl, HIy.out.base, hgo2⟩))
            have hst9 := setCell_grown' Z gx s (.int .i64 nv2)
            have HC9 := Lib.hid (show Chg O1 Z1 (Z.setCell ⟨gx, s, none⟩ (.int .i64 nv2)) from HCy.out.trans2 (O' := fun g => O1 g ∨ g = gx) (fun g hg => hg.imp id (fun h => by have := HGx.out; omega)) (Chg.of_grown hst9 (fun g e => by cases e; exact .inr rfl)))
            clear hev hnv2 hgo hgo2
            go_wp2_with fail
            go_roundw
            case rel => exact ⟨s + 1, vn2, vl2, _, by go_num, by omega, by rw [HGh.out], by rw [HGh.out]; exact HK9.out, HC9.out, HFy.out, HI9.out, fun j x h => by
              rw [HGh.out] at h
              have hl3 := HGas.out.len HSt0.out.2
              by_cases e : j = s
              · subst e
                rw [List.getElem?_append_right (by omega), hl3, Nat.sub_self] at h
                simp at h
                subst h
                exact upd_same _ _ _
              · rw [upd_other _ _ e]
                have h5 := (List.getElem?_eq_some_iff.1 h).1
                rw [List.length_append, List.length_singleton] at h5
                rw [List.getElem?_append_left (by omega)] at h
                exact HFf.out j x h⟩
            case measure => simp [intOf]; try omega
          · have HGh := Lib.hid (show (gAll m d L l c k (s + 1)).2.2 = ev ∧ (gAll m d L l c k (s + 1)).1 = gg.1 from by rw [HGg.out, if_neg he]; exact ⟨rfl, rfl⟩)
            have HGe := Lib.hid (show gAll m d L l c k ns = gAll m d L l c k (s + 1) from by
              have h1 := gAll_stuck (m := m) (d := d) (L := L) (l := l) (c := c) (k := k) (s := s + 1) (by rw [HGh.out.1]; exact he) (ns - (s + 1))
              rw [show s + 1 + (ns - (s + 1)) = ns from by omega] at h1
              exact h1)
            have HEv := Lib.hid he
            have hne : (ev != 0) = true := by simpa using he
            clear hev hnv2 hgo hgo2 he
            go_wp2_with fail
            go_ret2
            have hG : growF m (d + 1) L l k = (gg.1, 0, ev) := by
              rw [HGn.out, HGe.out, if_neg (by rw [HGh.out.1]; exact HEv.out), HGh.out.1, HGh.out.2]
            refine ⟨by rw [hG]; rfl, vn2, vl2, ?_, HCx.out.trans2 HFx.out HCy.out, HFx.out.trans (Nat.le_trans HCx.out.1 HZ12.out.1.size) HFy.out⟩
            rw [hG]
            exact HR.out.1.less (fun g h => .inl h)
      · obtain rfl : ns = s := by omega
        obtain ⟨nvx, onx, _⟩ := HKs.out.own
        obtain ⟨gn, cpn, hvn⟩ := own_form onx (by have := HGas.out.nle; omega)
        subst hvn
        have hgo : ¬ Ob gk (some gn) vl'.ownBlock gx := fun h => by
          rcases HCs.out.2 gx h with h1 | h1
          · exact HOg.out h1
          · have := HI2.out.lt; omega
        have HSl := Lib.hid (HIs.out.sl (by omega) (L := st.2.1) (HGas.out.len HSt0.out.2) HFf.out)
        obtain ⟨hKn, hCn, ⟨v0, hv0⟩, hfz⟩ := (HKs.out.less (R := R) (fun g h => .inl h)).next (a := k.nd.length) (u := .slice (some ⟨gx, 0, none⟩) ns ns) HGas.out.at_ ⟨HSl.out, fun _ g e h => by
          have e2 : gx = g := by simpa [Value.ownBlock] using e
          subst e2
          rcases h with h | h
          · exact hgo h
          · have h1 := HRl.out _ h
            have h2 := HCx.out.1
            have h3 := HGx.out
            omega⟩
        obtain ⟨nn2, hn2⟩ : ∃ n, st.1.nd.length = n := ⟨_, rfl⟩
        have hlt2 : nn < nn2 := by have := HGas.out.nle; have := HNn.out; omega
        obtain ⟨g0, g1⟩ := cells_two HKs.out.box
        have HN2 := Lib.hid hn2
        rw [HNn.out] at hKn hCn hv0 hfz
        have hv1 : wr.cell? ⟨((⟨gn, 0, none⟩ : Addr).add (nn * 2)).block, ((⟨gn, 0, none⟩ : Addr).add (nn * 2)).off + 1, none⟩ = some v0 := by rw [add_zero_k]; exact hv0
        have hf1 : wr.frozen? ⟨((⟨gn, 0, none⟩ : Addr).add (nn * 2)).block, ((⟨gn, 0, none⟩ : Addr).add (nn * 2)).off + 1, none⟩ = false := by rw [add_zero_k]; exact hfz
        have HKn := Lib.hid (And.intro hKn hCn)
        have hG : growF m (d + 1) L l k = (⟨st.1.nd.set nn ⟨(c : Int), st.2.1⟩, st.1.lv⟩, (nn : Int), 0) := by
          rw [HGn.out, HSt0.out.1, if_pos HSt0.out.2, HNn.out]
        have HG := Lib.hid hG
        rw [hn2] at g0
        clear hKn hCn hG onx hn2
        have hadd := add_zero_k gn (nn * 2)
        go_wp2_with fail
        go_ret2
        refine ⟨by rw [HG.out]; rfl, _, _, ?_, HCx.out.trans2 HFx.out (HCs.out.1.trans2 HF1s.out HKn.out.2), HFx.out.trans HCx.out.1 HF1s.out⟩
        rw [HG.out]
        exact HKn.out.1
end Go.Proofs.YthfegbcbpeedbaaGreatDoor
namespace Go.Ky
open Go.Nm
def buildG (m : Mx) : Kx × Int × Int := growF m 65 m.rows (m.st.map full) ⟨[], []⟩
def buildE (m : Mx) : Int := if mxF m = true then (buildG m).2.2 else 30
def buildK (m : Mx) : Kx := if buildE m = 0 then (buildG m).1 else ⟨[], []⟩
theorem sets_full {st : List Int} (h : chrF st = true) : setsF st (st.map full) = true := by
  refine sets_mk (by rw [List.length_map]) fun c n x h1 h2 => ?_
  rw [List.getElem?_map, h1] at h2
  simp at h2
  subst h2
  have h3 := (chr_ok h).2.2 c n h1
  obtain ⟨N, rfl⟩ : ∃ N : Nat, n = (N : Int) := ⟨n.toNat, by omega⟩
  rw [full_nat]
  have h4 : 2 ^ 1 ≤ 2 ^ N := Nat.pow_le_pow_right (by omega) (by omega)
  omega
theorem fits_full {st may : List Int} (hc : chrF st = true) (h : setsF st may = true) : fitsF may (st.map full) = true := by
  unfold fitsF
  refine List.all_eq_true.2 fun p hp => decide_eq_true ?_
  obtain ⟨i, hi, e⟩ := List.getElem_of_mem hp
  have h2 : (may.zip (st.map full))[i]? = some p := by rw [← e]; exact List.getElem?_eq_getElem hi
  have h3 := List.getElem?_zip_eq_some.1 h2
  have h4 := h3.2
  rw [List.getElem?_map] at h4
  cases hn : st[i]? with
  | none => rw [hn] at h4; cases h4
  | some n =>
    rw [hn] at h4
    simp at h4
    have h5 := sets_at h hn h3.1
    have h6 := (chr_ok hc).2.2 i n hn
    rw [← h4]
    obtain ⟨N, rfl⟩ : ∃ N : Nat, n = (N : Int) := ⟨n.toNat, by omega⟩
    rw [full_nat] at h5 ⊢
    obtain ⟨Y, hY⟩ : ∃ Y : Nat, p.1 = (Y : Int) := ⟨p.1.toNat, by omega⟩
    rw [hY] at h5 ⊢
    have h7 := pow16 (k := N) (by omega)
    have e2 : ((2 ^ N : Nat) : Int) - 1 = ((2 ^ N - 1 : Nat) : Int) := by omega
    unfold meetF
    rw [e2, and_i64 (by omega) (by omega), Nat.and_two_pow_sub_one_of_lt_two_pow (by omega)]
    omega
end Go.Ky
namespace Go.Proofs.YthfegbcbpeedbaaGreatDoor
open Go.RowKit Go.Nm Go.Ky

theorem KgS.kyV {R : Nat → Prop} {W X : World} {gk : Nat} {k : Kx} {vn vl : Value} (h : KgS R W gk k vn vl X) : KyV X (.agg #[vn, vl]) k := by
  obtain ⟨nv, n1, n2⟩ := h.own
  obtain ⟨lv, l1, l2⟩ := h.lwn
  refine ⟨vn, vl, rfl, ?_, ?_⟩
  · rcases n1.2 with ⟨e, h0⟩ | ⟨g, cap, cur, e, hb, hg, h1, h2, h3, h4⟩
    · have hl := List.length_eq_zero_iff.1 h0
      rw [hl, e]
      exact IlSl.nil _ _
    · refine ⟨_, _, e, fun i x hx => ?_⟩
      obtain ⟨vm, c0, c1, hv⟩ := n2.2 i x hx
      have hc := n1.cells (g := g) (by rw [e]; rfl)
      refine ⟨⟨g, 0, none⟩, vm, rfl, (Array.getElem?_eq_some_iff.1 hg).1, ?_, ?_, hv.1⟩
      · exact hc (i * 2) _ c0
      · rw [add_zero_k]
        have := hc (i * 2 + 1) _ c1
        rw [add_zero_k] at this
        exact this
  · rcases l1.2 with ⟨e, h0⟩ | ⟨g, cap, cur, e, hb, hg, h1, h2, h3, h4⟩
    · have hl := List.length_eq_zero_iff.1 h0
      rw [hl, e]
      exact ⟨none, 0, [], rfl, ⟨rfl, fun i v L h => by simp at h⟩, fun i u hu => by simp at hu⟩
    · have hc := l1.cells (g := g) (by rw [e]; rfl)
      refine ⟨_, _, lv, e, ⟨l2.1, fun i v L h1 h2 => ?_⟩, fun i u hu => ⟨_, rfl, (Array.getElem?_eq_some_iff.1 hg).1, hc i u hu⟩⟩
      obtain ⟨u, hu, ha⟩ := l2.2 i L h2
      rw [hu] at h1; injection h1 with h1; subst h1
      exact ha.1
set_option maxRecDepth 100000 in
set_option maxHeartbeats 8000000 in
theorem Build_any (v : Value) (m : Mx) (w : World) (hv : MxV w v m) (hs : MSm m) :
    Calls Tryz.prog 23 #[v] w fun e w' => (∃ kv, e = .returned (.tuple #[kv, .int .i64 (buildE m)]) ∧ KyV w' kv (buildK m)) ∧ Below w.heap.size w w' := by
  have hv0 := hv
  obtain ⟨A1, c1, A2, c2, W0, rfl, hW0, hb0, hM, hS, hR, hX⟩ := mx_box hv
  have hz : W0.heap.size = w.heap.size + 1 := by rw [← hW0]; simp
  have hn0 : W0.heap[w.heap.size]? = some (.cells #[.slice A1 m.st.length c1, .slice A2 m.rows.length c2] 25) := by rw [← hW0]; exact World.alloc_heap_new w _
  have hb1 := below_new (w := W0) (.cells #[.slice none 0 0, .slice none 0 0] 29)
  have hn1 := World.alloc_heap_new W0 (.cells #[.slice none 0 0, .slice none 0 0] 29)
  obtain ⟨W1, hW1⟩ : ∃ W, W0.alloc (.cells #[.slice none 0 0, .slice none 0 0] 29) = W := ⟨_, rfl⟩
  rw [hW1, hz] at hn1
  rw [hW1] at hb1
  have hB1 := hb0.trans (hb1.mono hb0.size)
  have HB1 := Lib.hid hB1
  have HW := Lib.hid (And.intro hW0 hW1)
  have HX := Lib.hid (fun Y (h : Below W1.heap.size W1 Y) => And.intro (hX Y (hb1.trans (h.mono hb1.size))) ((h.block _ (Array.getElem?_eq_some_iff.1 hn1).1).trans hn1))
  have HOp := Lib.hid (Open_any _ m W1 (hM W1 hb1) hs)
  have hz1 : W1.heap.size = w.heap.size + 1 + 1 := by rw [← hW1]; simp [hz]
  have HSs := Lib.hid (show InSl w w.heap.size (.slice A1 m.st.length c1) m.st from by
    obtain ⟨v1, v2, e, h1, h2⟩ := hv0
    simp at e
    rw [e.1]; exact h1)
  have HRs := Lib.hid (show Il2 w w.heap.size (fun r vm => InSl w w.heap.size vm r.may) (.slice A2 m.rows.length c2) m.rows from by
    obtain ⟨v1, v2, e, h1, h2⟩ := hv0
    simp at e
    rw [e.2]; exact h2.il2)
  have HE := Lib.hid (show buildE m = (if mxF m = true then (buildG m).2.2 else 30) ∧ buildK m = (if buildE m = 0 then (buildG m).1 else ⟨[], []⟩) ∧ cmE m = (if mxF m = true then 0 else 30) ∧ openF m = (if mxF m = true then m.st.map full else []) from ⟨rfl, rfl, rfl, rfl⟩)
  obtain ⟨be, hbe⟩ : ∃ b, buildE m = b := ⟨_, rfl⟩
  obtain ⟨bk, hbk⟩ : ∃ b, buildK m = b := ⟨_, rfl⟩
  rw [hbe, hbk] at HE
  rw [hbe, hbk]
  rw [HE.out.2.2.1, HE.out.2.2.2] at HOp
  obtain ⟨⟨k0, k1⟩, hkr⟩ := HX.out W1 (Below.refl _ _)
  have HL4 := Lib.hid (fun h : mxF m = true => (mx_all h).2.1)
  cases hm : mxF m with
  | false =>
    have HF := Lib.hid (show be = 30 ∧ bk = ⟨[], []⟩ from by
      have h1 : be = 30 := by rw [HE.out.1, hm]; rfl
      exact ⟨h1, by rw [HE.out.2.1, h1]; rfl⟩)
    rw [hm] at HOp
    simp only [Bool.false_eq_true, if_false] at HOp
    generalize m.st.length = ns at *
    generalize m.rows.length = nr at *
    clear hv hv0 hs hW0 hb0 hM hS hR hX hz hn0 hb1 hn1 hW1 hB1 hz1 hbe hbk hm hkr HE HL4
    go_enter Tryz.func23, Tryz.ntmps23
    go_wp2_with fail
    rw [HW.out.1, HW.out.2]
    (try go_wp2_with fail)
    (with_reducible refine HOp.out.mono ?_)
    rintro e w1 ⟨⟨u, rfl, hu, _⟩, hb⟩
    have HB2 := Lib.hid (HB1.out.trans (hb.mono HB1.out.size))
    have hkr := (HX.out w1 hb).2
    obtain ⟨r0, r1⟩ := cells_two hkr
    have f0 := frozen_cells hkr 0
    have f1 := frozen_cells hkr 1
    obtain ⟨Au, cu, rfl, _⟩ := hu.form
    clear hu hb hkr k0 k1
    go_wp2_with fail
    refine bodyPost_ret (v := .tuple #[.agg #[.slice none 0 0, .slice none 0 0], .int .i64 30]) (by simp [results, Tryz.results23, go_sem, r0, r1]) rfl ?_
    refine ⟨⟨_, by rw [HF.out.1], ?_⟩, (HB2.out.setCell (by show _ ≤ _ + 1; omega) _).setCell (by show _ ≤ _ + 1; omega) _⟩
    rw [HF.out.2]
    exact ⟨_, _, rfl, IlSl.nil _ _, ⟨none, 0, [], rfl, ⟨rfl, fun i v L h => by simp at h⟩, fun i u hu => by simp at hu⟩⟩
  | true =>
    have HMx := Lib.hid hm
    have hchr := (mx_all hm).1
    rw [hm] at HOp
    simp only [if_true] at HOp
    have HBe := Lib.hid (show be = (buildG m).2.2 from by rw [HE.out.1, hm]; rfl)
    have HGr := Lib.hid (fun (u : Value) (X : World) (gk : Nat) (hX : Below w.heap.size w X) (hlo : w.heap.size ≤ gk) (hbx : X.heap[gk]? = some (.cells #[.slice none 0 0, .slice none 0 0] 29)) (hu : InSl X X.heap.size u (m.st.map full)) (hug : ∀ g, u.ownBlock = some g → g ≠ gk) (hsz : w.heap.size + 1 < X.heap.size) =>
      grow_any (W := w) (gk := gk) (m := m) (A1 := A1) (A2 := A2) (c1 := c1) (c2 := c2) HSs.out hm 65 (fun g => g = w.heap.size + 1) m.rows (m.st.map full) ⟨[], []⟩ (.slice none 0 0) (.slice none 0 0) (.slice A2 m.rows.length c2) u X 0
        ⟨hX, hlo, hbx, ⟨[], World.ownsRow_nil _ _ _ _, Els.nil _⟩, ⟨[], World.ownsRow_nil _ _ _ _, rfl, fun i l h => by simp at h⟩, (fun h => nomatch h), (fun h => nomatch h), (fun g h => nomatch h)⟩
        (fun g h => by omega) (HRs.out.chg (O := fun _ => False) (Chg.of_below hX) (fun _ _ _ h => h))
        (fun hne g e h => by
          obtain ⟨A, c, e1, h2⟩ := HRs.out
          obtain ⟨r, hr⟩ := List.exists_mem_of_ne_nil _ hne
          obtain ⟨i, hi, er⟩ := List.getElem_of_mem hr
          obtain ⟨ad, vm, e4, h3, _⟩ := h2 i r (by rw [← er]; exact List.getElem?_eq_getElem hi)
          rw [e1, e4] at e
          have e5 : ad.block = g := by simpa [Value.ownBlock] using e
          rcases h with h | h | h
          · omega
          · cases h
          · cases h)
        ⟨hu, fun _ g e h => by
          rcases h with h | h | h
          · exact hug g e h
          · cases h
          · cases h⟩
        (fun r hr => hr) (fun r hr => fits_full hchr ((mx_all hm).2.2 r hr)) (sets_full hchr) (mx_all hm).2.1 (by simp) (by have h1 := und_le (m.st.map full); have h2 := (chr_ok hchr).2.1; rw [List.length_map] at h1; omega) (by simp) (by have h1 := und_le (m.st.map full); have h2 := (chr_ok hchr).2.1; rw [List.length_map] at h1; omega))
    have HGg := Lib.hid (show growF m 65 m.rows (m.st.map full) ⟨[], []⟩ = buildG m from rfl)
    rw [HGg.out] at HGr
    obtain ⟨gg, hgg⟩ : ∃ g, buildG m = g := ⟨_, rfl⟩
    rw [hgg] at HGr HBe HE
    obtain ⟨ns, hns⟩ : ∃ n, m.st.length = n := ⟨_, rfl⟩
    obtain ⟨nr, hnr⟩ : ∃ n, m.rows.length = n := ⟨_, rfl⟩
    have HNn := Lib.hid (show (m.st.map full).length = ns from by rw [List.length_map, hns])
    rw [hns, hnr] at HW HX HOp HGr
    rw [hns] at k0
    rw [hnr] at k1
    rw [hns, hnr]
    clear hv hv0 hs hW0 hb0 hM hS hR hX hz hn0 hb1 hn1 hW1 hB1 hbe hbk hm hkr hchr hgg hns hnr
    go_enter Tryz.func23, Tryz.ntmps23
    go_wp2_with fail
    rw [HW.out.1, HW.out.2]
    (try go_wp2_with fail)
    (with_reducible refine HOp.out.mono ?_)
    rintro e w1 ⟨⟨u, rfl, hu, hug⟩, hb⟩
    have HB2 := Lib.hid hb
    have hb2 := below_new (w := w1) (.cells #[.slice none 0 0, .slice none 0 0] 29)
    have hn2 := World.alloc_heap_new w1 (.cells #[.slice none 0 0, .slice none 0 0] 29)
    obtain ⟨V, hV⟩ : ∃ V, w1.alloc (.cells #[.slice none 0 0, .slice none 0 0] 29) = V := ⟨_, rfl⟩
    rw [hV] at hb2 hn2
    have hneN : m.st.map full ≠ [] ∨ True := .inr trivial
    have hBV := HB2.out.trans (hb2.mono HB2.out.size)
    obtain ⟨Au, cu, e, _⟩ := hu.form
    subst e
    have hu1 := hu
    rw [HNn.out] at hu
    have hpos : 0 < ns := by
      have h1 := (chr_ok (mx_all HMx.out).1).1
      have h2 := HNn.out
      rw [List.length_map] at h2
      omega
    have HGr1 := Lib.hid (HGr.out (.slice Au ns cu) V w1.heap.size (HB1.out.trans (hBV.mono HB1.out.size)) (Nat.le_trans HB1.out.size HB2.out.size) hn2 (hu.step hb2) (fun g e h => by
      have h3 := hu.ownLt (fun h4 => by have := congrArg List.length h4; rw [HNn.out] at this; simp at this; omega) e
      omega) (by have := hb2.size; have := HB2.out.size; have h5 := (Array.getElem?_eq_some_iff.1 hn2).1; omega))
    have HBV := Lib.hid hBV
    have HVe := Lib.hid hV
    have hkr := (HX.out V hBV).2
    obtain ⟨⟨k2, k3⟩, _⟩ := HX.out V hBV
    obtain ⟨⟨k4, k5⟩, _⟩ := HX.out (w1.alloc (.cells #[.slice none 0 0, .slice none 0 0] 29)) (by rw [hV]; exact hBV)
    clear hu hu1 hug hb hb2 hn2 hV hBV k0 k1 hkr HGr HOp hneN
    rw [HNn.out]
    go_wp2_with fail
    rw [HVe.out]
    (with_reducible refine HGr1.out.mono ?_)
    rintro e w2 ⟨rfl, vn', vl', hK, hC, hF⟩
    have HK := Lib.hid hK
    obtain ⟨nvx, onx, _⟩ := hK.own
    obtain ⟨lvx, olx, _⟩ := hK.lwn
    obtain ⟨An, cn, rfl⟩ := own_slice_form onx
    obtain ⟨Al, cl, rfl⟩ := own_slice_form olx
    obtain ⟨g0, g1⟩ := cells_two hK.box
    have hkr : w2.heap[w.heap.size + 1]? = some (.cells #[.slice none 0 0, .slice none 0 0] 29) := hC.2 _ _ (HX.out V HBV.out).2 (fun h => by
      have h1 := HB2.out.size
      rcases h with h | h | h
      · omega
      · cases h
      · cases h)
    obtain ⟨r0, r1⟩ := cells_two hkr
    have f0 := frozen_cells hkr 0
    have f1 := frozen_cells hkr 1
    obtain ⟨ev, hev⟩ : ∃ e, gg.2.2 = e := ⟨_, rfl⟩
    have HEv := Lib.hid hev
    rw [hev]
    have HBw := Lib.hid (show Below w.heap.size w w2 from hK.bel)
    have hnO : ¬ Ob w1.heap.size (Value.ownBlock (.slice An gg.1.nd.length cn)) (Value.ownBlock (.slice Al gg.1.lv.length cl)) (w.heap.size + 1) := fun h => by
      have h1 := HB2.out.size
      have h2 := HBV.out.size
      rcases hF _ h with h3 | h3
      · rcases h3 with h3 | h3 | h3
        · omega
        · cases h3
        · cases h3
      · omega
    have hK1 := hK.outR (setCell_grown' w2 (w.heap.size + 1) 0 (.slice An gg.1.nd.length cn)) (fun g e => by cases e; exact ⟨rfl, by omega, hnO⟩)
    have hK2 := hK1.outR (setCell_grown' _ (w.heap.size + 1) 1 (.slice Al gg.1.lv.length cl)) (fun g e => by cases e; exact ⟨rfl, by omega, hnO⟩)
    have HKf := Lib.hid hK2.kyV
    clear hK1 hK2 hnO
    generalize gg.2.1 = x21 at *
    generalize hnl : gg.1.nd.length = nl1 at *
    generalize hll : gg.1.lv.length = ll1 at *
    clear hK hC hF onx olx hkr hev hnl hll k2 k3 k4 k5 HGr1
    by_cases he : ev = 0
    · subst he
      have HF := Lib.hid (show be = 0 ∧ bk = gg.1 from by
        have h1 : be = 0 := by rw [HBe.out, HEv.out]
        exact ⟨h1, by rw [HE.out.2.1, h1, if_pos rfl]⟩)
      have hbf := (HBw.out.setCell (p := ⟨w.heap.size + 1, 0, none⟩) (by show _ ≤ _ + 1; omega) (.slice An nl1 cn)).setCell (p := ⟨w.heap.size + 1, 1, none⟩) (by show _ ≤ _ + 1; omega) (.slice Al ll1 cl)
      have HBf := Lib.hid hbf
      clear hbf
      go_wp2_with fail
      refine bodyPost_ret (v := .tuple #[.agg #[.slice An nl1 cn, .slice Al ll1 cl], .int .i64 0]) (by simp [results, Tryz.results23, go_sem, r0, r1]) rfl ?_
      exact ⟨⟨_, by rw [HF.out.1], by rw [HF.out.2]; exact HKf.out⟩, HBf.out⟩
    · have hne : (ev != 0) = true := by simpa using he
      have HF := Lib.hid (show be = ev ∧ bk = ⟨[], []⟩ from by
        have h1 : be = ev := by rw [HBe.out, HEv.out]
        exact ⟨h1, by rw [HE.out.2.1, h1, if_neg he]⟩)
      clear he
      go_wp2_with fail
      refine bodyPost_ret (v := .tuple #[.agg #[.slice none 0 0, .slice none 0 0], .int .i64 ev]) (by simp [results, Tryz.results23, go_sem, r0, r1]) rfl ?_
      refine ⟨⟨_, by rw [HF.out.1], ?_⟩, (HBw.out.setCell (by show _ ≤ _ + 1; omega) _).setCell (by show _ ≤ _ + 1; omega) _⟩
      rw [HF.out.2]
      exact ⟨_, _, rfl, IlSl.nil _ _, ⟨none, 0, [], rfl, ⟨rfl, fun i v L h => by simp at h⟩, fun i u hu => by simp at hu⟩⟩
end Go.Proofs.YthfegbcbpeedbaaGreatDoor
namespace Go.Ky
def sampleK : Kx := ⟨[⟨0, [1, -2]⟩, ⟨1, [-1, -3, -4]⟩], [[10], [20], [10, 30], [30]]⟩
def badK : Kx := ⟨[⟨0, [1, -2]⟩, ⟨1, [-1, -3, -4]⟩], [[10], [20], [10], [30]]⟩
def wantK : Kx := ⟨[⟨0, [1, -4]⟩, ⟨1, [-1, -2, -3]⟩], [[10], [10, 30], [30], [20]]⟩
end Go.Ky
namespace Go.Proofs.YthfegbcbpeedbaaGreatDoor
open Go.RowKit Go.Nm Go.Ky

set_option maxRecDepth 100000 in
set_option maxHeartbeats 8000000 in
theorem SameKeyT_any (u v : Value) (k : Kx) (w : World) (hu : KyV w u k) (hv : KyV w v k) (hk : KSm k) :
    Calls Tryz.prog 24 #[u, v] w fun e w' => e = .returned (.bool true) ∧ Below w.heap.size w w' := by
  obtain ⟨A1, c1, A2, c2, W0, rfl, hW0, hb0, hK, hNd, hV, hX⟩ := ky_box hu
  have hz : W0.heap.size = w.heap.size + 1 := by rw [← hW0]; simp
  obtain ⟨B1, d1, B2, d2, W1, rfl, hW1, hb1, hK2, hNd2, hV2, hX2⟩ := ky_box (hv.step hb0)
  rw [hz] at hX2
  have HW := Lib.hid (And.intro hW0 hW1)
  have HB1 := Lib.hid (hb0.trans (hb1.mono hb0.size))
  have HX := Lib.hid (fun Y (h : Below W1.heap.size W1 Y) => And.intro (hX Y (hb1.trans (h.mono hb1.size))) (hX2 Y h))
  have HU := Lib.hid (hNd W1 hb1)
  have HV := Lib.hid (hNd2 W1 (Below.refl _ _))
  have hd : decide (k.lv = k.lv) = true := by simp
  have hsl := fun Y (h : Below W1.heap.size W1 Y) => SameLists_any _ _ k.lv k.lv Y (hV Y (hb1.trans (h.mono hb1.size))) (hV2 Y h) (by have := hk.2.1; omega) (fun l hl => by have := hk.2.2.2 l hl; omega) (fun l hl => by have := hk.2.2.2 l hl; omega)
  rw [hd] at hsl
  have HSL := Lib.hid hsl
  have HMy := Lib.hid hk.2.2.1
  have hn1 : k.nd.length ≤ 2000 := hk.1
  obtain ⟨n, hn⟩ : ∃ n, k.nd.length = n := ⟨_, rfl⟩
  rw [hn] at HW HX HU HV hn1 ⊢
  obtain ⟨⟨k0, k1⟩, k2, k3⟩ := HX.out W1 (Below.refl _ _)
  generalize k.lv.length = nl at *
  have hq : ((n : Int) != (n : Int)) = false := by simp
  clear hu hv hk hW0 hb0 hK hNd hV hX hz hW1 hb1 hK2 hNd2 hV2 hX2 hd hsl hn
  go_enter Tryz.func24, Tryz.ntmps24
  go_wp2_with fail
  rw [HW.out.1, HW.out.2]
  (try go_wp2_with fail)
  (with_reducible refine (HSL.out W1 (Below.refl _ _)).mono ?_)
  rintro e w1 ⟨rfl, hb⟩
  have HB2 := Lib.hid hb
  clear hb k0 k1 k2 k3
  go_wp2_with fail
  go_loopw [5] (fun iv wr => ∃ i : Nat, iv = .int .i64 (i : Int) ∧ i ≤ n ∧ Below W1.heap.size W1 wr) (fun iv _ => n - (intOf iv).toNat)
  case atStart => exact ⟨0, rfl, by omega, HB2.out⟩
  case round =>
    obtain ⟨i, rfl, hin, hb⟩ := hrel
    have HB := Lib.hid hb
    clear hb
    obtain ⟨⟨k0, k1⟩, k2, k3⟩ := HX.out wr HB.out
    by_cases hlt : i < n
    · obtain ⟨r, ad, Am, cm, hr, rfl, hY⟩ := HU.out.at_ hlt
      obtain ⟨r2, ad2, Am2, cm2, hr2, rfl, hY2⟩ := HV.out.at_ hlt
      rw [hr] at hr2
      injection hr2 with hr2
      subst hr2
      have hrl := HMy.out r (List.mem_of_getElem? hr)
      have hz : ∀ z : Wb wr, Below W1.heap.size W1 z.v := fun z => HB.out.trans (z.h.mono HB.out.size)
      have hsi := fun z : Wb wr => SameInts_any _ _ r.may r.may z.v (hY z.v (hz z)).2 (hY2 z.v (hz z)).2 (by omega) (by omega)
      rw [show decide (r.may = r.may) = true from by simp] at hsi
      have HSI := Lib.hid hsi
      have ss := fun z : Wb wr => And.intro (HX.out z.v (hz z)) (And.intro (hY z.v (hz z)).1 (hY2 z.v (hz z)).1)
      have hq2 : (r.nm != r.nm) = false := by simp
      generalize r.nm = rn at *
      generalize r.may.length = rl at *
      clear hr hsi hY hY2 hz k1 k3 k2
      go_wp2_with fail
      refine wp_region_wb (by kernel_rfl) (by kernel_rfl) ?_; (repeat ((with_reducible refine wpQuiet_step ?_); intro K hK; go_simp; (try (refine ite_neg_of (by simp [undef]) ?_)); first | (with_reducible refine hK _ ?_; clear hK K) | (apply Exists.intro; (with_reducible refine ⟨fun _ => ?_, hK _ ?_⟩); ((go_at_call 15; exact Calls.wb (HSI.out _))); clear hK K))); (with_reducible refine wpQuiet_nil ?_); rintro w1 ⟨⟨_, hb1⟩, rfl⟩; (try dsimp only)
      have HB3 := Lib.hid (HB.out.trans (hb1.mono HB.out.size))
      clear hb1 ss k0
      go_wp2_with fail
      go_roundw
      case rel => exact ⟨i + 1, by go_num, by omega, HB3.out⟩
      case measure => simp [intOf]; try omega
    · obtain rfl : n = i := by omega
      go_wp2_with fail
      go_ret
      exact ⟨rfl, HB1.out.trans (HB.out.mono HB1.out.size)⟩
theorem ints_sl {X : World} {g n B : Nat} {cs : Array Value} {L : List Int} (h : X.heap[g]? = some (.cells cs 3)) (hl : L.length = n) (hn : n ≤ 1000) (hc : cs = (L.map (Value.int .i64)).toArray) (hB : g < B) : InSl X B (.slice (some ⟨g, 0, none⟩) n n) L := by
  subst hc
  exact ⟨some ⟨g, 0, none⟩, n, by rw [hl], by omega, by unfold maxLen; omega, fun i x hx => ⟨_, rfl, hB, by rw [add_zero_k]; simp only [World.cell?, h]; simp [hx]⟩⟩
theorem two_nodes {X : World} {g B : Nat} {a b : Rw} {va vb : Value} (h : X.heap[g]? = some (.cells #[.int .i64 a.nm, va, .int .i64 b.nm, vb] 55)) (hB : g < B) (ha : InSl X B va a.may) (hb : InSl X B vb b.may) : IlSl X B (.slice (some ⟨g, 0, none⟩) 2 2) [a, b] := by
  refine ⟨some ⟨g, 0, none⟩, 2, rfl, fun i x hx => ?_⟩
  have hi := (List.getElem?_eq_some_iff.1 hx).1
  rcases (show i = 0 ∨ i = 1 by simp at hi; omega) with rfl | rfl
  · simp at hx; subst hx; exact ⟨_, va, rfl, hB, by rw [add_zero_k]; simp [World.cell?, h], by rw [add_zero_k]; simp [World.cell?, h], ha⟩
  · simp at hx; subst hx; exact ⟨_, vb, rfl, hB, by rw [add_zero_k]; simp [World.cell?, h], by rw [add_zero_k]; simp [World.cell?, h], hb⟩
theorem four_lists {X : World} {g : Nat} {a b c d : List Int} {va vb vc vd : Value} (h : X.heap[g]? = some (.cells #[va, vb, vc, vd] 22)) (ha : InSl X X.heap.size va a) (hb : InSl X X.heap.size vb b) (hc : InSl X X.heap.size vc c) (hd : InSl X X.heap.size vd d) : VsSl X X.heap.size (.slice (some ⟨g, 0, none⟩) 4 4) [a, b, c, d] := by
  have hlt := (Array.getElem?_eq_some_iff.1 h).1
  refine ⟨some ⟨g, 0, none⟩, 4, [va, vb, vc, vd], rfl, ⟨rfl, fun i v L h1 h2 => ?_⟩, fun i u hu => ⟨_, rfl, hlt, ?_⟩⟩
  · have hi := (List.getElem?_eq_some_iff.1 h1).1
    rcases (show i = 0 ∨ i = 1 ∨ i = 2 ∨ i = 3 by simp at hi; omega) with rfl | rfl | rfl | rfl <;>
    · simp at h1 h2
      subst h1; subst h2
      assumption
  · rw [add_zero_k]
    simp only [World.cell?, h]
    simpa using hu
def KeyP (w w' : World) (v : Value) : Prop := ∃ vn gl va vb vc vd, v = .agg #[vn, .slice (some ⟨gl, 0, none⟩) 4 4] ∧ w.heap.size ≤ gl ∧ IlSl w' gl vn sampleK.nd ∧ w'.heap[gl]? = some (.cells #[va, vb, vc, vd] 22) ∧ InSl w' gl va [10] ∧ InSl w' gl vb [20] ∧ InSl w' gl vc [10, 30] ∧ InSl w' gl vd [30]
theorem KeyP.kyV {w w' : World} {v : Value} (h : KeyP w w' v) : KyV w' v sampleK := by
  obtain ⟨vn, gl, va, vb, vc, vd, e, h1, h2, h3, h4, h5, h6, h7⟩ := h
  have hl := Nat.le_of_lt (Array.getElem?_eq_some_iff.1 h3).1
  exact ⟨_, _, e, h2.mono hl, four_lists h3 (h4.mono hl) (h5.mono hl) (h6.mono hl) (h7.mono hl)⟩
set_option maxRecDepth 100000 in
set_option maxHeartbeats 8000000 in
theorem key_any (w : World) :
    Calls Tryz.prog 22 #[] w fun e w' => (∃ v, e = .returned v ∧ KeyP w w' v) ∧ Below w.heap.size w w' := by
  obtain ⟨W1, hW1⟩ : ∃ W, w.alloc (.cells #[.slice (some ⟨w.heap.size + 1 + 1 + 1, 0, none⟩) 2 2, .slice (some ⟨w.heap.size + 1 + 1 + 1 + 1 + 1 + 1 + 1 + 1, 0, none⟩) 4 4] 29) = W := ⟨_, rfl⟩
  have hb1 := below_new (w := w) (.cells #[.slice (some ⟨w.heap.size + 1 + 1 + 1, 0, none⟩) 2 2, .slice (some ⟨w.heap.size + 1 + 1 + 1 + 1 + 1 + 1 + 1 + 1, 0, none⟩) 4 4] 29)
  have hn1 := World.alloc_heap_new w (.cells #[.slice (some ⟨w.heap.size + 1 + 1 + 1, 0, none⟩) 2 2, .slice (some ⟨w.heap.size + 1 + 1 + 1 + 1 + 1 + 1 + 1 + 1, 0, none⟩) 4 4] 29)
  rw [hW1] at hb1 hn1
  have hz1 : W1.heap.size = w.heap.size + 1 := by rw [← hW1]; simp
  obtain ⟨W2, hW2⟩ : ∃ W, W1.alloc (.cells #[.int .i64 1, .int .i64 (-2)] 3) = W := ⟨_, rfl⟩
  have hb2 := below_new (w := W1) (.cells #[.int .i64 1, .int .i64 (-2)] 3)
  have hn2 := World.alloc_heap_new W1 (.cells #[.int .i64 1, .int .i64 (-2)] 3)
  rw [hW2] at hb2 hn2
  rw [hz1] at hn2
  have hz2 : W2.heap.size = w.heap.size + 1 + 1 := by rw [← hW2]; simp [hz1]
  have hn1 := (hb2.block _ (by omega)).trans hn1
  obtain ⟨W3, hW3⟩ : ∃ W, W2.alloc (.cells #[.int .i64 (-1), .int .i64 (-3), .int .i64 (-4)] 3) = W := ⟨_, rfl⟩
  have hb3 := below_new (w := W2) (.cells #[.int .i64 (-1), .int .i64 (-3), .int .i64 (-4)] 3)
  have hn3 := World.alloc_heap_new W2 (.cells #[.int .i64 (-1), .int .i64 (-3), .int .i64 (-4)] 3)
  rw [hW3] at hb3 hn3
  rw [hz2] at hn3
  have hz3 : W3.heap.size = w.heap.size + 1 + 1 + 1 := by rw [← hW3]; simp [hz2]
  have hn1 := (hb3.block _ (by omega)).trans hn1
  have hn2 := (hb3.block _ (by omega)).trans hn2
  obtain ⟨W4, hW4⟩ : ∃ W, W3.alloc (.cells #[.int .i64 0, .slice (some ⟨w.heap.size + 1, 0, none⟩) 2 2, .int .i64 1, .slice (some ⟨w.heap.size + 1 + 1, 0, none⟩) 3 3] 55) = W := ⟨_, rfl⟩
  have hb4 := below_new (w := W3) (.cells #[.int .i64 0, .slice (some ⟨w.heap.size + 1, 0, none⟩) 2 2, .int .i64 1, .slice (some ⟨w.heap.size + 1 + 1, 0, none⟩) 3 3] 55)
  have hn4 := World.alloc_heap_new W3 (.cells #[.int .i64 0, .slice (some ⟨w.heap.size + 1, 0, none⟩) 2 2, .int .i64 1, .slice (some ⟨w.heap.size + 1 + 1, 0, none⟩) 3 3] 55)
  rw [hW4] at hb4 hn4
  rw [hz3] at hn4
  have hz4 : W4.heap.size = w.heap.size + 1 + 1 + 1 + 1 := by rw [← hW4]; simp [hz3]
  have hn1 := (hb4.block _ (by omega)).trans hn1
  have hn2 := (hb4.block _ (by omega)).trans hn2
  have hn3 := (hb4.block _ (by omega)).trans hn3
  obtain ⟨W5, hW5⟩ : ∃ W, W4.alloc (.cells #[.int .i64 10] 3) = W := ⟨_, rfl⟩
  have hb5 := below_new (w := W4) (.cells #[.int .i64 10] 3)
  have hn5 := World.alloc_heap_new W4 (.cells #[.int .i64 10] 3)
  rw [hW5] at hb5 hn5
  rw [hz4] at hn5
  have hz5 : W5.heap.size = w.heap.size + 1 + 1 + 1 + 1 + 1 := by rw [← hW5]; simp [hz4]
  have hn1 := (hb5.block _ (by omega)).trans hn1
  have hn2 := (hb5.block _ (by omega)).trans hn2
  have hn3 := (hb5.block _ (by omega)).trans hn3
  have hn4 := (hb5.block _ (by omega)).trans hn4
  obtain ⟨W6, hW6⟩ : ∃ W, W5.alloc (.cells #[.int .i64 20] 3) = W := ⟨_, rfl⟩
  have hb6 := below_new (w := W5) (.cells #[.int .i64 20] 3)
  have hn6 := World.alloc_heap_new W5 (.cells #[.int .i64 20] 3)
  rw [hW6] at hb6 hn6
  rw [hz5] at hn6
  have hz6 : W6.heap.size = w.heap.size + 1 + 1 + 1 + 1 + 1 + 1 := by rw [← hW6]; simp [hz5]
  have hn1 := (hb6.block _ (by omega)).trans hn1
  have hn2 := (hb6.block _ (by omega)).trans hn2
  have hn3 := (hb6.block _ (by omega)).trans hn3
  have hn4 := (hb6.block _ (by omega)).trans hn4
  have hn5 := (hb6.block _ (by omega)).trans hn5
  obtain ⟨W7, hW7⟩ : ∃ W, W6.alloc (.cells #[.int .i64 10, .int .i64 30] 3) = W := ⟨_, rfl⟩
  have hb7 := below_new (w := W6) (.cells #[.int .i64 10, .int .i64 30] 3)
  have hn7 := World.alloc_heap_new W6 (.cells #[.int .i64 10, .int .i64 30] 3)
  rw [hW7] at hb7 hn7
  rw [hz6] at hn7
  have hz7 : W7.heap.size = w.heap.size + 1 + 1 + 1 + 1 + 1 + 1 + 1 := by rw [← hW7]; simp [hz6]
  have hn1 := (hb7.block _ (by omega)).trans hn1
  have hn2 := (hb7.block _ (by omega)).trans hn2
  have hn3 := (hb7.block _ (by omega)).trans hn3
  have hn4 := (hb7.block _ (by omega)).trans hn4
  have hn5 := (hb7.block _ (by omega)).trans hn5
  have hn6 := (hb7.block _ (by omega)).trans hn6
  obtain ⟨W8, hW8⟩ : ∃ W, W7.alloc (.cells #[.int .i64 30] 3) = W := ⟨_, rfl⟩
  have hb8 := below_new (w := W7) (.cells #[.int .i64 30] 3)
  have hn8 := World.alloc_heap_new W7 (.cells #[.int .i64 30] 3)
  rw [hW8] at hb8 hn8
  rw [hz7] at hn8
  have hz8 : W8.heap.size = w.heap.size + 1 + 1 + 1 + 1 + 1 + 1 + 1 + 1 := by rw [← hW8]; simp [hz7]
  have hn1 := (hb8.block _ (by omega)).trans hn1
  have hn2 := (hb8.block _ (by omega)).trans hn2
  have hn3 := (hb8.block _ (by omega)).trans hn3
  have hn4 := (hb8.block _ (by omega)).trans hn4
  have hn5 := (hb8.block _ (by omega)).trans hn5
  have hn6 := (hb8.block _ (by omega)).trans hn6
  have hn7 := (hb8.block _ (by omega)).trans hn7
  obtain ⟨W9, hW9⟩ : ∃ W, W8.alloc (.cells #[.slice (some ⟨w.heap.size + 1 + 1 + 1 + 1, 0, none⟩) 1 1, .slice (some ⟨w.heap.size + 1 + 1 + 1 + 1 + 1, 0, none⟩) 1 1, .slice (some ⟨w.heap.size + 1 + 1 + 1 + 1 + 1 + 1, 0, none⟩) 2 2, .slice (some ⟨w.heap.size + 1 + 1 + 1 + 1 + 1 + 1 + 1, 0, none⟩) 1 1] 22) = W := ⟨_, rfl⟩
  have hb9 := below_new (w := W8) (.cells #[.slice (some ⟨w.heap.size + 1 + 1 + 1 + 1, 0, none⟩) 1 1, .slice (some ⟨w.heap.size + 1 + 1 + 1 + 1 + 1, 0, none⟩) 1 1, .slice (some ⟨w.heap.size + 1 + 1 + 1 + 1 + 1 + 1, 0, none⟩) 2 2, .slice (some ⟨w.heap.size + 1 + 1 + 1 + 1 + 1 + 1 + 1, 0, none⟩) 1 1] 22)
  have hn9 := World.alloc_heap_new W8 (.cells #[.slice (some ⟨w.heap.size + 1 + 1 + 1 + 1, 0, none⟩) 1 1, .slice (some ⟨w.heap.size + 1 + 1 + 1 + 1 + 1, 0, none⟩) 1 1, .slice (some ⟨w.heap.size + 1 + 1 + 1 + 1 + 1 + 1, 0, none⟩) 2 2, .slice (some ⟨w.heap.size + 1 + 1 + 1 + 1 + 1 + 1 + 1, 0, none⟩) 1 1] 22)
  rw [hW9] at hb9 hn9
  rw [hz8] at hn9
  have hz9 : W9.heap.size = w.heap.size + 1 + 1 + 1 + 1 + 1 + 1 + 1 + 1 + 1 := by rw [← hW9]; simp [hz8]
  have hn1 := (hb9.block _ (by omega)).trans hn1
  have hn2 := (hb9.block _ (by omega)).trans hn2
  have hn3 := (hb9.block _ (by omega)).trans hn3
  have hn4 := (hb9.block _ (by omega)).trans hn4
  have hn5 := (hb9.block _ (by omega)).trans hn5
  have hn6 := (hb9.block _ (by omega)).trans hn6
  have hn7 := (hb9.block _ (by omega)).trans hn7
  have hn8 := (hb9.block _ (by omega)).trans hn8
  have hB := hb1
  have hB := hB.trans (hb2.mono hB.size)
  have hB := hB.trans (hb3.mono hB.size)
  have hB := hB.trans (hb4.mono hB.size)
  have hB := hB.trans (hb5.mono hB.size)
  have hB := hB.trans (hb6.mono hB.size)
  have hB := hB.trans (hb7.mono hB.size)
  have hB := hB.trans (hb8.mono hB.size)
  have hB := hB.trans (hb9.mono hB.size)
  have HW := Lib.hid (And.intro hW1 (And.intro hW2 (And.intro hW3 (And.intro hW4 (And.intro hW5 (And.intro hW6 (And.intro hW7 (And.intro hW8 hW9))))))))
  have HB := Lib.hid hB
  have hnd : IlSl W9 (w.heap.size + 1 + 1 + 1 + 1 + 1 + 1 + 1 + 1) (.slice (some ⟨w.heap.size + 1 + 1 + 1, 0, none⟩) 2 2) sampleK.nd := two_nodes (a := ⟨0, [1, -2]⟩) (b := ⟨1, [-1, -3, -4]⟩) hn4 (by omega) (ints_sl hn2 rfl (by omega) rfl (by omega)) (ints_sl hn3 rfl (by omega) rfl (by omega))
  have HP := Lib.hid (show KeyP w W9 (.agg #[.slice (some ⟨w.heap.size + 1 + 1 + 1, 0, none⟩) 2 2, .slice (some ⟨w.heap.size + 1 + 1 + 1 + 1 + 1 + 1 + 1 + 1, 0, none⟩) 4 4]) from ⟨_, _, _, _, _, _, rfl, by omega, hnd, hn9, ints_sl hn5 rfl (by omega) rfl (by omega), ints_sl hn6 rfl (by omega) rfl (by omega), ints_sl hn7 rfl (by omega) rfl (by omega), ints_sl hn8 rfl (by omega) rfl (by omega)⟩)
  obtain ⟨c0, c1⟩ := cells_two hn1
  clear hW1 hb1 hn1 hz1 hW2 hb2 hn2 hz2 hW3 hb3 hn3 hz3 hW4 hb4 hn4 hz4 hW5 hb5 hn5 hz5 hW6 hb6 hn6 hz6 hW7 hb7 hn7 hz7 hW8 hb8 hn8 hz8 hW9 hb9 hn9 hz9 hB hnd
  go_enter Tryz.func22, Tryz.ntmps22
  go_wp2_with fail
  rw [HW.out.1, HW.out.2.1, HW.out.2.2.1, HW.out.2.2.2.1, HW.out.2.2.2.2.1, HW.out.2.2.2.2.2.1, HW.out.2.2.2.2.2.2.1, HW.out.2.2.2.2.2.2.2.1, HW.out.2.2.2.2.2.2.2.2]
  (try go_wp2_with fail)
  exact bodyPost_ret (v := .agg #[.slice (some ⟨w.heap.size + 1 + 1 + 1, 0, none⟩) 2 2, .slice (some ⟨w.heap.size + 1 + 1 + 1 + 1 + 1 + 1 + 1 + 1, 0, none⟩) 4 4]) (by simp [results, Tryz.results22, go_sem, c0, c1]) rfl ⟨⟨_, rfl, HP.out⟩, HB.out⟩
end Go.Proofs.YthfegbcbpeedbaaGreatDoor
