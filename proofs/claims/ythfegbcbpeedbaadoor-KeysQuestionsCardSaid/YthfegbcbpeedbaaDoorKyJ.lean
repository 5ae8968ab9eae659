/- Remain, Fits. -/
import Derived.Test.YthfegbcbpeedbaaDoorKyH
namespace Go.Ky
open Go.Nm
def remL (L : List Rw) (l : List Int) : List Rw := L.filter fun r => fitsF r.may l
theorem filter_take {α : Type} {p : α → Bool} {L : List α} {i : Nat} {x : α} (h : L[i]? = some x) : (L.take (i + 1)).filter p = (L.take i).filter p ++ (if p x = true then [x] else []) := by
  rw [show L.take (i + 1) = L.take i ++ [x] from by rw [List.take_add_one, h]; rfl, List.filter_append]
  congr 1
  cases hp : p x <;> simp [hp]
def remO (m : Mx) (l : List Int) : List Int := if seenE m [l] = 0 then (remL m.rows l).map (·.nm) else []
def fitE (m : Mx) (name : Int) (l : List Int) : Int := if seenE m [l] = 0 then rowE m name else seenE m [l]
def fitB (m : Mx) (name : Int) (l : List Int) : Bool := if seenE m [l] = 0 ∧ rowE m name = 0 then fitsF (rowF m name).may l else false
theorem seen_ok {m : Mx} {l : List Int} (h : seenE m [l] = 0) : mxF m = true ∧ setsF m.st l = true := by
  unfold seenE at h
  by_cases hm : mxF m = true
  · rw [if_pos hm] at h
    refine ⟨hm, ?_⟩
    by_cases hs : setsF m.st l = true
    · exact hs
    · simp [hs] at h
  · rw [if_neg hm] at h; omega
theorem seen_cases (m : Mx) (LL : List (List Int)) : seenE m LL = 0 ∨ seenE m LL = 30 ∨ seenE m LL = 32 := by
  unfold seenE; split
  · split <;> simp
  · simp
theorem row_cases {m : Mx} {name : Int} (h : mxF m = true) : (rowE m name = 0 ∧ (rowF m name).may.length = m.st.length ∧ rowF m name ∈ m.rows ∧ (rowF m name).nm = name) ∨ (rowE m name = 1 ∧ rowF m name = ⟨0, []⟩) := by
  unfold rowE rowF
  rw [if_pos h, if_pos h]
  cases hr : rowO m name with
  | none => exact .inr ⟨rfl, rfl⟩
  | some r =>
    have hm := List.mem_of_find?_eq_some hr
    have hp := List.find?_some hr
    exact .inl ⟨rfl, mx_may h hm, hm, by simpa using hp⟩
end Go.Ky
namespace Go.Proofs.YthfegbcbpeedbaaDoor
open Go.RowKit Go.Nm Go.Ky

theorem infoR : ∃ i, Tryd.prog.info? 35 = some i ∧ i.zero = some (.agg #[.int .i64 0, .slice none 0 0]) ∧ i.size = 2 ∧ i.bytes = 32 := by
  have h : (Tryd.prog.info? 35).map (fun i => (i.zero, i.size, i.bytes)) = some (some (.agg #[.int .i64 0, .slice none 0 0]), 2, 32) := by kernel_rfl
  cases h2 : Tryd.prog.info? 35 with
  | none => rw [h2] at h; cases h
  | some i =>
    rw [h2] at h
    simp only [Option.map_some, Option.some.injEq, Prod.mk.injEq] at h
    exact ⟨i, rfl, h.1, h.2.1, h.2.2⟩
/-- the cells of some rows -/
def Els (E : Rw → Value → Prop) (L : List Rw) (vals : List Value) : Prop := vals.length = L.length * 2 ∧ ∀ (i : Nat) (x : Rw), L[i]? = some x → ∃ vm, vals[i * 2]? = some (.int .i64 x.nm) ∧ vals[i * 2 + 1]? = some vm ∧ E x vm
theorem Els.nil (E : Rw → Value → Prop) : Els E [] [] := ⟨rfl, fun i x h => by simp at h⟩
theorem Els.snoc {E : Rw → Value → Prop} {L : List Rw} {vals : List Value} (h : Els E L vals) {x : Rw} {vm : Value} (hx : E x vm) : Els E (L ++ [x]) (vals ++ [.int .i64 x.nm, vm]) := by
  refine ⟨by rw [List.length_append, List.length_append, h.1]; simp; omega, fun i y hy => ?_⟩
  by_cases hi : i < L.length
  · rw [List.getElem?_append_left hi] at hy
    obtain ⟨vm, h1, h2, h4⟩ := h.2 i y hy
    have hl := h.1
    exact ⟨vm, (List.getElem?_append_left (by omega)).trans h1, (List.getElem?_append_left (by omega)).trans h2, h4⟩
  · rw [List.getElem?_append_right (by omega)] at hy
    have e1 : i - L.length = 0 := by have := (List.getElem?_eq_some_iff.1 hy).1; simp at this; omega
    rw [e1] at hy
    simp at hy
    subst hy
    have hl := h.1
    have e : i = L.length := by omega
    subst e
    refine ⟨vm, ?_, ?_, hx⟩
    · rw [List.getElem?_append_right (by omega), hl, Nat.sub_self]; rfl
    · rw [List.getElem?_append_right (by omega), hl, show L.length * 2 + 1 - L.length * 2 = 1 by omega]; rfl
/-- a row of rows of the call's own, whose lists lie below -/
structure RmI (W : World) (L : List Rw) (vals : List Value) (vs : Value) (X : World) : Prop where
  bel : Below W.heap.size W X
  own : X.ownsRow W.heap.size 35 2 vs L.length vals
  ele : Els (fun x vm => InSl W W.heap.size vm x.may) L vals
section
variable {W : World} {L : List Rw} {vals : List Value} {vs : Value} {X Y : World}
theorem RmI.start (W : World) : RmI W [] [] (.slice none 0 0) W := ⟨Below.refl _ _, World.ownsRow_nil _ _ _ _, Els.nil _⟩
theorem RmI.step (h : RmI W L vals vs X) (hb : Below X.heap.size X Y) : RmI W L vals vs Y := ⟨h.bel.trans (hb.mono h.bel.size), own_step h.own hb, h.ele⟩
theorem RmI.sl (h : RmI W L vals vs X) : IlSl X X.heap.size vs L := by
  rcases h.own.2 with ⟨e, h0⟩ | ⟨g, cap, cur, e, hb, hg, h1, h2, h3, h4⟩
  · have hl := List.length_eq_zero_iff.1 h0
    subst hl
    rw [e]
    exact IlSl.nil _ _
  · refine ⟨_, _, e, fun i x hx => ?_⟩
    obtain ⟨vm, c0, c1, hv⟩ := h.ele.2 i x hx
    have hc := h.own.cells (g := g) (by rw [e]; rfl)
    refine ⟨⟨g, 0, none⟩, vm, rfl, (Array.getElem?_eq_some_iff.1 hg).1, ?_, ?_, (hv.below h.bel).mono h.bel.size⟩
    · exact hc (i * 2) _ c0
    · rw [add_zero_k]
      have := hc (i * 2 + 1) _ c1
      rw [add_zero_k] at this
      exact this
theorem RmI.slice (h : RmI W L vals vs X) : ∃ A n c, vs = .slice A n c := by
  obtain ⟨A, c, e⟩ := h.sl.form
  exact ⟨A, _, c, e⟩
theorem RmI.lt (h : RmI W L vals vs X) {g : Nat} (e : vs.ownBlock = some g) : W.heap.size ≤ g := (h.own.lt g e).1
theorem wpList_app_rw {ops : Array Oper} {rest : List Oper} {o : Oper} {a : Act} {Q : Exit → Act → World → Prop} {w : World} (hgd : o.guard = none) (s x : Operand) (ho : o.op = .call { callee := .builtin .append, args := #[s, x], argTypes := #[23, 23] })
    {r : Rw} {vm : Value} (hs : a.eval s = vs) (h : RmI W L vals vs w) (g : Nat) (hx : a.eval x = .slice (some ⟨g, 0, none⟩) 1 1) (hc : w.heap[g]? = some (.cells #[.int .i64 r.nm, vm] 35)) (hr : InSl W W.heap.size vm r.may) (hn : L.length ≤ 100000)
    (hK : ∀ v' w', RmI W (L ++ [r]) (vals ++ [.int .i64 r.nm, vm]) v' w' → wpList Tryd.prog ops Q rest (a.put o.dst v') w') : wpList Tryd.prog ops Q (o :: rest) a w := by
  refine wpList_plain hgd fun _ hK2 => ?_
  obtain ⟨Am, cm, rfl, _⟩ := hr.form
  obtain ⟨i0, hi0, hz0, hz1, hz2⟩ := infoR
  obtain ⟨v', w', hr', h2, h3, _, h5⟩ := run_append_own_at (P := Tryd.prog) (w := w) W.heap.size 23 o.type 35 i0 _ 2 32 Tryd.underlying23 hi0 hz0 hz1 hz2 rfl (by decide) vs L.length vals h.own ⟨g, 0, none⟩ 1 1 [.int .i64 r.nm, .slice Am r.may.length cm] rfl
    (fun j u hj => by rw [add_zero_k]; simpa [World.cell?, hc] using hj) (fun u hu => by simp at hu; rcases hu with rfl | rfl <;> rfl) (by unfold maxLen; omega) (by omega) h.bel.size
  unfold Oper.wp execOp
  simp only [ho, resolve, invoke, builtin, Sem.run_bind, Sem.run_pure, Result.andThen_ok, List.map_toArray, List.map_cons, List.map_nil, hs, hx, hr']
  exact hK2 _ _ (hK v' w' ⟨h.bel.grown h3 h.bel.size fun q e => (h.own.lt q e).1, by rw [List.length_append]; exact h2, h.ele.snoc hr⟩)
end
set_option maxRecDepth 100000 in
set_option maxHeartbeats 8000000 in
theorem remaining_any (v u : Value) (L : List Rw) (l : List Int) (w : World) (hv : IlSl w w.heap.size v L) (hu : InSl w w.heap.size u l) (hlen : ∀ r ∈ L, l.length = r.may.length) (hn : L.length ≤ 1000) (hl : l.length ≤ 1000000) :
    Calls Tryd.prog 74 #[v, u] w fun e w' => (∃ vs, e = .returned vs ∧ IlSl w' w'.heap.size vs (remL L l) ∧ ∀ g, vs.ownBlock = some g → w.heap.size ≤ g) ∧ Below w.heap.size w w' := by
  have HU := Lib.hid hv
  have HT := Lib.hid hu
  have HLn := Lib.hid hlen
  have HLl := Lib.hid hl
  obtain ⟨A, c, rfl⟩ := hv.form
  obtain ⟨Au, cu, rfl, _⟩ := hu.form
  obtain ⟨n, h⟩ : ∃ n, L.length = n := ⟨_, rfl⟩
  have HN := Lib.hid h
  obtain ⟨nl, h2⟩ : ∃ nl, l.length = nl := ⟨_, rfl⟩
  rw [h] at HU hn ⊢
  rw [h2] at HT ⊢
  have HR := Lib.hid (show remL L l = L.filter (fun r => fitsF r.may l) from rfl)
  obtain ⟨res, hres⟩ : ∃ res, remL L l = res := ⟨_, rfl⟩
  rw [hres] at HR ⊢
  have HI0 := Lib.hid (RmI.start w)
  clear hv hu hlen hl h h2 hres
  go_enter Tryd.func74, Tryd.ntmps74
  go_wp2_with fail
  go_loopw [5, 10] (fun ov iv wr => ∃ (i : Nat) (vals : List Value) (Ao : Option Addr) (no co : Nat), ov = .slice Ao no co ∧ iv = .int .i64 (i : Int) ∧ i ≤ n ∧ RmI w ((L.take i).filter fun r => fitsF r.may l) vals ov wr) (fun _ iv _ => n - (intOf iv).toNat)
  case atStart => exact ⟨0, [], _, _, _, rfl, rfl, by omega, HI0.out⟩
  case round =>
    obtain ⟨i, vals, Ao, no, co, rfl, rfl, hin, hI⟩ := hrel
    have HI := Lib.hid hI
    clear hI
    by_cases hlt : i < n
    · obtain ⟨r, ad, Am, cm, hr, rfl, hY⟩ := HU.out.at_ hlt
      obtain ⟨⟨d0, d1⟩, _⟩ := hY wr HI.out.bel
      have HMw := Lib.hid (hY w (Below.refl _ _)).2
      have hbx := below_new (w := wr) (.cells #[.int .i64 r.nm, .slice Am r.may.length cm] 35)
      have hnx := World.alloc_heap_new wr (.cells #[.int .i64 r.nm, .slice Am r.may.length cm] 35)
      have HNx := Lib.hid hnx
      have HI2 := Lib.hid (HI.out.step hbx)
      have HFi := Lib.hid (fits_any _ _ r l _ ⟨Am, cm, rfl, (hY _ HI2.out.bel).2⟩ (HT.out.step HI2.out.bel) (HLn.out r (List.mem_of_getElem? hr)) HLl.out)
      have HQ := Lib.hid hr
      have HLq := Lib.hid (show ((L.take i).filter fun r => fitsF r.may l).length ≤ 100000 from by
        have h1 := List.length_filter_le (fun r : Rw => fitsF r.may l) (L.take i)
        have h2 := List.length_take_le i L
        omega)
      have hgx : wr.heap.size < (wr.alloc (.cells #[.int .i64 r.nm, .slice Am r.may.length cm] 35)).heap.size := (Array.getElem?_eq_some_iff.1 hnx).1
      clear hr hY hbx hnx
      go_wp2_with fail
      (with_reducible refine HFi.out.mono ?_)
      rintro e w3 ⟨rfl, hb⟩
      have HI3 := Lib.hid (HI2.out.step hb)
      have hn3 := (hb.block _ hgx).trans HNx.out
      obtain ⟨k0, k1⟩ := cells_two hn3
      clear hb HFi d0 d1 hn3 hgx
      cases hf : fitsF r.may l with
      | true =>
        have HP := Lib.hid (show (L.take (i + 1)).filter (fun r => fitsF r.may l) = (L.take i).filter (fun r => fitsF r.may l) ++ [r] from by rw [filter_take HQ.out, if_pos hf])
        clear hf
        go_wp2_with (at_builtin; refine wpList_app_rw (vm := .slice Am r.may.length cm) (r := r) rfl _ _ rfl rfl (HI3.out.step (below_new _)) w3.heap.size rfl (World.alloc_heap_new _ _) HMw.out HLq.out ?_; intro v6 w6 hI6; obtain ⟨A6, n6, c6, rfl⟩ := hI6.slice; have HI6 := Lib.hid hI6; clear hI6)
        go_roundw
        case rel => exact ⟨i + 1, _, _, _, _, rfl, by go_num, by omega, by rw [HP.out]; exact HI6.out⟩
        case measure => simp [intOf]; omega
      | false =>
        have HP := Lib.hid (show (L.take (i + 1)).filter (fun r => fitsF r.may l) = (L.take i).filter (fun r => fitsF r.may l) from by rw [filter_take HQ.out, if_neg (by rw [hf]; simp)]; simp)
        clear hf
        go_wp2_with fail
        go_roundw
        case rel => exact ⟨i + 1, _, _, _, _, rfl, by go_num, by omega, by rw [HP.out]; exact HI3.out⟩
        case measure => simp [intOf]; omega
    · obtain rfl : n = i := by omega
      have HF := Lib.hid (show (L.take n).filter (fun r => fitsF r.may l) = res from by rw [HR.out, List.take_of_length_le (by have := HN.out; omega)])
      have HI2 := Lib.hid HI.out
      rw [HF.out] at HI2
      go_wp2_with fail
      go_ret
      exact ⟨⟨_, rfl, HI2.out.sl, fun g e => HI2.out.lt e⟩, HI2.out.bel⟩
end Go.Proofs.YthfegbcbpeedbaaDoor
namespace Go.Proofs.YthfegbcbpeedbaaDoor
open Go.RowKit Go.Nm Go.Ky

set_option maxRecDepth 100000 in
set_option maxHeartbeats 8000000 in
theorem Remain_any (v u : Value) (m : Mx) (l : List Int) (w : World) (hv : MxV w v m) (hs : MSm m) (hu : InSl w w.heap.size u l) (hl : l.length ≤ 1000000) :
    Calls Tryd.prog 28 #[v, u] w fun e w' => (∃ r, e = .returned (.tuple #[r, .int .i64 (seenE m [l])]) ∧ InSl w' w'.heap.size r (remO m l) ∧ ∀ g, r.ownBlock = some g → w.heap.size ≤ g) ∧ Below w.heap.size w w' := by
  obtain ⟨A1, c1, A2, c2, W0, rfl, hW0, hb0, hM, hS, hR, hX⟩ := mx_box hv
  have HB0 := Lib.hid hb0
  have HW0 := Lib.hid hW0
  have hu0 := hu.step hb0
  obtain ⟨Au, cu, rfl, _⟩ := hu0.form
  have hb1 := below_new (w := W0) (.cells #[.slice Au l.length cu] 22)
  have HB1 := Lib.hid hb1
  have HC := Lib.hid (checkSeen_any _ _ m [l] _ (hM _ hb1) hs (one_box hu0) (by intro L hL; simp at hL; subst hL; exact hl) (by simp))
  obtain ⟨k0, k1⟩ := hX W0 (Below.refl _ _)
  obtain ⟨d0, d1⟩ := hX _ hb1
  have HX := Lib.hid hX
  have HRm := Lib.hid (fun (hm : mxF m = true ∧ setsF m.st l = true) Y (h : Below W0.heap.size W0 Y) => remaining_any _ _ m.rows l Y (hR Y h) (hu0.step h) (fun r hr => by rw [mx_may hm.1 hr]; exact sets_len hm.2) hs.2.1 hl)
  have HNl := Lib.hid (show (remL m.rows l).length ≤ 100000 from by have := List.length_filter_le (fun r : Rw => fitsF r.may l) m.rows; have := hs.2.1; unfold remL; omega)
  obtain ⟨er, hr⟩ : ∃ r, seenE m [l] = r := ⟨_, rfl⟩
  have HE := Lib.hid (show er = 0 ∨ er = 30 ∨ er = 32 from by rw [← hr]; exact seen_cases m [l])
  have hz : W0.heap.size = w.heap.size + 1 := by rw [← hW0]; simp
  rw [hz] at HC
  have HO := Lib.hid (show remO m l = if er = 0 then (remL m.rows l).map (·.nm) else [] from by unfold remO; rw [hr])
  have HG := Lib.hid (show er = 0 → mxF m = true ∧ setsF m.st l = true from fun h => seen_ok (by rw [hr]; exact h))
  rw [hr] at HC ⊢
  rw [HO.out]
  generalize m.st.length = ns at *
  generalize m.rows.length = nr at *
  obtain ⟨n, hn⟩ : ∃ n, l.length = n := ⟨_, rfl⟩
  rw [hn] at HC HB1 HRm d0 d1 ⊢
  clear hv hu hu0 hW0 hb0 hM hS hR hX hl hr hs hb1 hz HO hn
  go_enter Tryd.func28, Tryd.ntmps28
  go_wp2_with fail
  rw [HW0.out]
  go_wp2_with fail
  (with_reducible refine HC.out.mono ?_)
  rintro e w1 ⟨rfl, hb⟩
  have HB2 := Lib.hid (HB1.out.trans (hb.mono HB1.out.size))
  clear hb k0 k1 d0 d1 HC
  rcases HE.out with rfl | rfl | rfl
  · obtain ⟨k0, k1⟩ := HX.out w1 HB2.out
    have HR1 := Lib.hid (HRm.out (HG.out rfl) w1 HB2.out)
    clear HRm HG HE
    go_wp2_with fail
    (with_reducible refine HR1.out.mono ?_)
    rintro e w2 ⟨⟨vs, rfl, hvs, _⟩, hb⟩
    have HB3 := Lib.hid (HB2.out.trans (hb.mono HB2.out.size))
    have HNo := Lib.hid (namesOf_any _ _ w2 hvs HNl.out)
    obtain ⟨Av, cv, rfl⟩ := hvs.form
    generalize (remL m.rows l).length = q at *
    clear hvs hb k0 k1 HR1
    go_wp2_with fail
    (with_reducible refine HNo.out.mono ?_)
    rintro e w3 ⟨⟨r, rfl, hr, ho⟩, hb⟩
    have HB4 := Lib.hid (HB3.out.trans (hb.mono HB3.out.size))
    have HR := Lib.hid (And.intro hr ho)
    clear hr ho hb HNo
    go_wp2_with fail
    go_ret2
    exact ⟨⟨_, rfl, HR.out.1, fun g e => Nat.le_trans (Nat.le_trans HB0.out.size HB3.out.size) (HR.out.2 g e)⟩, HB0.out.trans (HB4.out.mono HB0.out.size)⟩
  · go_wp2_with fail
    go_ret2
    exact ⟨⟨_, rfl, InSl.nil _ _, fun g e => by cases e⟩, HB0.out.trans (HB2.out.mono HB0.out.size)⟩
  · go_wp2_with fail
    go_ret2
    exact ⟨⟨_, rfl, InSl.nil _ _, fun g e => by cases e⟩, HB0.out.trans (HB2.out.mono HB0.out.size)⟩
set_option maxRecDepth 100000 in
set_option maxHeartbeats 8000000 in
theorem Fits_any (v u : Value) (m : Mx) (name : Int) (l : List Int) (w : World) (hv : MxV w v m) (hs : MSm m) (hu : InSl w w.heap.size u l) (hl : l.length ≤ 1000000) :
    Calls Tryd.prog 26 #[v, .int .i64 name, u] w fun e w' => e = .returned (.tuple #[.bool (fitB m name l), .int .i64 (fitE m name l)]) ∧ Below w.heap.size w w' := by
  obtain ⟨A1, c1, A2, c2, W0, rfl, hW0, hb0, hM, hS, hR, hX⟩ := mx_box hv
  have HB0 := Lib.hid hb0
  have HW0 := Lib.hid hW0
  have hu0 := hu.step hb0
  have HU := Lib.hid hu0
  obtain ⟨Au, cu, rfl, _⟩ := hu0.form
  have hb1 := below_new (w := W0) (.cells #[.slice Au l.length cu] 22)
  have HB1 := Lib.hid hb1
  have HC := Lib.hid (checkSeen_any _ _ m [l] _ (hM _ hb1) hs (one_box hu0) (by intro L hL; simp at hL; subst hL; exact hl) (by simp))
  obtain ⟨k0, k1⟩ := hX W0 (Below.refl _ _)
  obtain ⟨d0, d1⟩ := hX _ hb1
  have HX := Lib.hid hX
  have HRw := Lib.hid (fun Y (h : Below W0.heap.size W0 Y) => Row_any _ m name Y (hM Y h) hs)
  obtain ⟨er, hr⟩ : ∃ r, seenE m [l] = r := ⟨_, rfl⟩
  have HE := Lib.hid (show er = 0 ∨ er = 30 ∨ er = 32 from by rw [← hr]; exact seen_cases m [l])
  have hz : W0.heap.size = w.heap.size + 1 := by rw [← hW0]; simp
  rw [hz] at HC
  have HO := Lib.hid (show fitE m name l = (if er = 0 then rowE m name else er) ∧ fitB m name l = (if er = 0 ∧ rowE m name = 0 then fitsF (rowF m name).may l else false) from ⟨by unfold fitE; rw [hr], by unfold fitB; rw [hr]⟩)
  have HG := Lib.hid (show er = 0 → mxF m = true ∧ setsF m.st l = true from fun h => seen_ok (by rw [hr]; exact h))
  have HLl := Lib.hid hl
  have HK := Lib.hid (fun h : mxF m = true => row_cases (name := name) h)
  rw [hr] at HC
  rw [HO.out.1, HO.out.2]
  obtain ⟨rr, hrr⟩ : ∃ rr, rowF m name = rr := ⟨_, rfl⟩
  obtain ⟨ee, hee⟩ : ∃ ee, rowE m name = ee := ⟨_, rfl⟩
  rw [hrr, hee] at HRw HK
  rw [hrr, hee]
  generalize m.rows.length = nr at *
  obtain ⟨n, hn⟩ : ∃ n, l.length = n := ⟨_, rfl⟩
  have HLn := Lib.hid hn
  rw [hn] at HC HB1 HU d0 d1 ⊢
  obtain ⟨ns, hns⟩ : ∃ n, m.st.length = n := ⟨_, rfl⟩
  have HNs := Lib.hid hns
  rw [hns] at HC HW0 HX HRw HK k0 d0 ⊢
  clear hv hu hu0 hW0 hb0 hM hS hR hX hl hr hs hb1 hz HO hn hns hrr hee
  go_enter Tryd.func26, Tryd.ntmps26
  go_wp2_with fail
  rw [HW0.out]
  go_wp2_with fail
  (with_reducible refine HC.out.mono ?_)
  rintro e w1 ⟨rfl, hb⟩
  have HB2 := Lib.hid (HB1.out.trans (hb.mono HB1.out.size))
  clear hb k0 k1 d0 d1 HC
  rcases HE.out with rfl | rfl | rfl
  · obtain ⟨k0, k1⟩ := HX.out w1 HB2.out
    have HR1 := Lib.hid (HRw.out w1 HB2.out)
    have HG1 := Lib.hid (HG.out rfl)
    clear HRw HG HE
    go_wp2_with fail
    (with_reducible refine HR1.out.mono ?_)
    rintro e w2 ⟨⟨rv, rfl, hrv⟩, hb⟩
    have HB3 := Lib.hid (HB2.out.trans (hb.mono HB2.out.size))
    obtain ⟨Ar, cr, rfl, _⟩ := hrv.1.form
    have HV := Lib.hid hrv
    have HK1 := Lib.hid (HK.out HG1.out.1)
    clear hrv hb k0 k1 HR1 HK
    rcases HK1.out with ⟨rfl, h2, h3, h4⟩ | ⟨rfl, rfl⟩
    · have hbx := below_new (w := w2) (.cells #[.int .i64 rr.nm, .slice Ar rr.may.length cr] 35)
      have hnx := cells_two (World.alloc_heap_new w2 (.cells #[.int .i64 rr.nm, .slice Ar rr.may.length cr] 35))
      have HB4 := Lib.hid (HB3.out.trans (hbx.mono HB3.out.size))
      have HFi := Lib.hid (fits_any _ _ rr l _ ⟨Ar, cr, rfl, HV.out.1.step hbx⟩ (HU.out.step HB4.out) (by rw [h2, sets_len HG1.out.2, HNs.out]) HLl.out)
      obtain ⟨k0, k1⟩ := hnx
      clear hbx h2 h3 h4
      go_wp2_with fail
      (with_reducible refine HFi.out.mono ?_)
      rintro e w3 ⟨rfl, hb⟩
      have HB5 := Lib.hid (HB4.out.trans (hb.mono HB4.out.size))
      clear hb k0 k1 HFi
      go_wp2_with fail
      go_ret2
      exact ⟨by simp, HB0.out.trans (HB5.out.mono HB0.out.size)⟩
    · have HB4 := Lib.hid (HB3.out.trans ((below_new (w := w2) (.cells #[.int .i64 0, .slice Ar 0 cr] 35)).mono HB3.out.size))
      simp only [List.length_nil] at *
      go_wp2_with fail
      go_ret2
      exact ⟨by simp, HB0.out.trans (HB4.out.mono HB0.out.size)⟩
  · go_wp2_with fail
    go_ret2
    exact ⟨by simp, HB0.out.trans (HB2.out.mono HB0.out.size)⟩
  · go_wp2_with fail
    go_ret2
    exact ⟨by simp, HB0.out.trans (HB2.out.mono HB0.out.size)⟩
end Go.Proofs.YthfegbcbpeedbaaDoor
