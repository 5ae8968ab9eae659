/- worst. -/
import Derived.Test.YthfegbcbpeedbaaDoorKyL
namespace Go.Ky
open Go.Nm
def leastI (z : Int) : Int := ((tzN z.toNat : Nat) : Int)
def sameE (m : Mx) (a b : Int) : Int := if comE m a b = 0 then (if ((comL m a b).all fun z => decide (z ≠ 0)) = true then 0 else 3) else comE m a b
def sameL (m : Mx) (a b : Int) : List Int := if sameE m a b = 0 then (comL m a b).map leastI else []
theorem full_le {q : Int} (h1 : 2 ≤ q) (h2 : q ≤ 16) : full q ≤ 65535 := by
  obtain ⟨k, rfl⟩ : ∃ k : Nat, q = (k : Int) := ⟨q.toNat, by omega⟩
  rw [full_nat]
  have := (pow16 (k := k) (by omega)).1
  omega
theorem st_range {m : Mx} (h : mxF m = true) {q : Int} (hq : q ∈ m.st) : 2 ≤ q ∧ q ≤ 16 := by
  have hc := mx_chr h
  unfold chrF at hc
  rw [Bool.and_eq_true] at hc
  exact of_decide_eq_true ((List.all_eq_true.1 hc.2) q hq)
theorem sets_range {m : Mx} (h : mxF m = true) {l : List Int} (hl : setsF m.st l = true) {k : Nat} {x : Int} (hx : l[k]? = some x) : 1 ≤ x ∧ x ≤ 65535 := by
  have hlen := sets_len hl
  unfold setsF at hl
  rw [Bool.and_eq_true] at hl
  have hk : k < m.st.length := by rw [← hlen]; exact (List.getElem?_eq_some_iff.1 hx).1
  have hq : m.st[k]? = some m.st[k] := List.getElem?_eq_getElem hk
  have h2 := (List.all_eq_true.1 hl.2) _ (List.mem_of_getElem? (zip_get hq hx))
  have h3 := of_decide_eq_true h2
  have h4 := st_range h (List.mem_of_getElem? hq)
  have := full_le h4.1 h4.2
  simp only at h3
  omega
theorem may_sets {m : Mx} (h : mxF m = true) {r : Rw} (hr : r ∈ m.rows) : setsF m.st r.may = true := by
  have h2 := mx_rows h
  unfold rowsF at h2
  rw [Bool.and_eq_true, Bool.and_eq_true] at h2
  exact (List.all_eq_true.1 h2.2.2) r hr
theorem meet_range {x y : Int} (hx : 0 ≤ x ∧ x ≤ 65535) (hy : 0 ≤ y ∧ y ≤ 65535) : 0 ≤ meetF x y ∧ meetF x y ≤ 65535 ∧ meetF x y = ((x.toNat &&& y.toNat : Nat) : Int) := by
  obtain ⟨a, rfl⟩ : ∃ a : Nat, x = (a : Int) := ⟨x.toNat, by omega⟩
  obtain ⟨b, rfl⟩ : ∃ b : Nat, y = (b : Int) := ⟨y.toNat, by omega⟩
  have h : meetF (a : Int) (b : Int) = ((a &&& b : Nat) : Int) := and_i64 (by omega) (by omega)
  have := Nat.and_le_left (n := a) (m := b)
  rw [h]
  simp only [Int.toNat_natCast]
  exact ⟨by omega, by omega, by first | trivial | rfl⟩
theorem com_range {m : Mx} {a b : Int} (h : comE m a b = 0) {k : Nat} {z : Int} (hz : (comL m a b)[k]? = some z) : 0 ≤ z ∧ z ≤ 65535 := by
  obtain ⟨hm, ha, hb, _⟩ := com_ok h
  unfold comL at hz
  rw [List.getElem?_zipWith] at hz
  rcases row_all m a with ⟨_, _, _, hra, _⟩ | ⟨h1, _⟩
  case inr => omega
  rcases row_all m b with ⟨_, _, _, hrb, _⟩ | ⟨h1, _⟩
  case inr => omega
  cases hx : (rowF m a).may[k]? with
  | none => rw [hx] at hz; simp at hz
  | some x =>
    cases hy : (rowF m b).may[k]? with
    | none => rw [hx, hy] at hz; simp at hz
    | some y =>
      rw [hx, hy] at hz
      simp at hz
      have h1 := sets_range hm (may_sets hm hra) hx
      have h2 := sets_range hm (may_sets hm hrb) hy
      have := meet_range (x := x) (y := y) (by omega) (by omega)
      omega
end Go.Ky
namespace Go.Proofs.YthfegbcbpeedbaaDoor
open Go.RowKit Go.Nm Go.Ky

set_option maxRecDepth 100000 in
set_option maxHeartbeats 8000000 in
theorem Same_any (v : Value) (m : Mx) (a b : Int) (w : World) (hv : MxV w v m) (hs : MSm m) (hT : TabH w) :
    Calls Tryd.prog 32 #[v, .int .i64 a, .int .i64 b] w fun e w' => (∃ u, e = .returned (.tuple #[u, .int .i64 (sameE m a b)]) ∧ InSl w' w'.heap.size u (sameL m a b) ∧ ∀ g, u.ownBlock = some g → w.heap.size ≤ g) ∧ Below w.heap.size w w' := by
  obtain ⟨A1, c1, A2, c2, W0, rfl, hW0, hb0, hM, hS, hR, hX⟩ := mx_box hv
  have HB0 := Lib.hid hb0
  have HW0 := Lib.hid hW0
  have HTl := Lib.hid (World.block_lt_of_cell? _ _ (hT 0 (by omega)))
  have HT := Lib.hid (fun Y (h : Below W0.heap.size W0 Y) => (hT.step hb0).step h)
  obtain ⟨k0, k1⟩ := hX W0 (Below.refl _ _)
  have HC := Lib.hid (commonOf_any _ m a b W0 (hM W0 (Below.refl _ _)) hs)
  have HO := Lib.hid (show sameE m a b = (if comE m a b = 0 then (if ((comL m a b).all fun z => decide (z ≠ 0)) = true then 0 else 3) else comE m a b) ∧ sameL m a b = (if sameE m a b = 0 then (comL m a b).map leastI else []) from ⟨rfl, rfl⟩)
  have HOk := Lib.hid (fun h : comE m a b = 0 => And.intro (com_ok h).2.2.2.2.2 (fun k z (hz : (comL m a b)[k]? = some z) => com_range h hz))
  have hns : m.st.length ≤ 1000 := hs.1
  have HCe := Lib.hid (show comE m a b = 0 ∨ comE m a b = 1 ∨ comE m a b = 30 from by
    unfold comE
    rcases row_all m a with ⟨h1, _⟩ | ⟨h1, _⟩
    · rw [if_pos h1]
      rcases row_all m b with ⟨h2, _⟩ | ⟨h2, _⟩ <;> omega
    · rw [if_neg (by omega)]; omega)
  obtain ⟨ce, hce⟩ : ∃ r, comE m a b = r := ⟨_, rfl⟩
  obtain ⟨CL, hCL⟩ : ∃ r, comL m a b = r := ⟨_, rfl⟩
  obtain ⟨se, hse⟩ : ∃ r, sameE m a b = r := ⟨_, rfl⟩
  obtain ⟨sl, hsl⟩ : ∃ r, sameL m a b = r := ⟨_, rfl⟩
  rw [hce, hCL] at HC HOk
  rw [hce] at HCe
  rw [hce, hCL, hse, hsl] at HO
  rw [hse, hsl]
  generalize m.rows.length = nr at *
  obtain ⟨ns, hn⟩ : ∃ n, m.st.length = n := ⟨_, rfl⟩
  rw [hn] at HW0 HC HOk k0 hns
  rw [hn]
  clear hv hs hW0 hb0 hM hS hR hX hce hCL hse hsl hn hT
  go_enter Tryd.func32, Tryd.ntmps32
  go_wp2_with fail
  rw [HW0.out]
  (try go_wp2_with fail)
  (with_reducible refine HC.out.mono ?_)
  rintro e w1 ⟨hcase, hb⟩
  have HB1 := Lib.hid hb
  clear hb k0 k1 HC
  rcases hcase with ⟨rfl, gw, rfl, f, hI, hf⟩ | ⟨hne, rfl⟩
  case inr =>
    rcases HCe.out with rfl | rfl | rfl
    · exact absurd rfl hne
    · have HF := Lib.hid (show se = 1 ∧ sl = [] from by
        have h := HO.out.1
        simp at h
        exact ⟨h, by rw [HO.out.2, h]; simp⟩)
      clear hne
      go_wp2_with fail
      go_ret2
      exact ⟨⟨_, by rw [HF.out.1]; rfl, by rw [HF.out.2]; exact InSl.nil _ _, fun g e => by cases e⟩, HB0.out.trans (HB1.out.mono HB0.out.size)⟩
    · have HF := Lib.hid (show se = 30 ∧ sl = [] from by
        have h := HO.out.1
        simp at h
        exact ⟨h, by rw [HO.out.2, h]; simp⟩)
      clear hne
      go_wp2_with fail
      go_ret2
      exact ⟨⟨_, by rw [HF.out.1]; rfl, by rw [HF.out.2]; exact InSl.nil _ _, fun g e => by cases e⟩, HB0.out.trans (HB1.out.mono HB0.out.size)⟩
  case inl =>
  have HOk1 := Lib.hid (HOk.out rfl)
  have HE := Lib.hid (show se = (if (CL.all fun z => decide (z ≠ 0)) = true then 0 else 3) ∧ sl = (if se = 0 then CL.map leastI else []) from ⟨by rw [HO.out.1]; simp, HO.out.2⟩)
  have HF0 := Lib.hid hf
  have HI0 := Lib.hid (hI.low HB0.out)
  clear hI hf HO HOk HCe
  go_wp2_with fail
  go_loopw [24] (fun iv wr => ∃ (i : Nat) (g : Nat → Int), iv = .int .i64 (i : Int) ∧ i ≤ ns ∧ IwI w gw ns g wr ∧ Below w1.heap.size w1 w1 ∧ (∀ k, i ≤ k → g k = f k) ∧ (∀ k z, k < i → CL[k]? = some z → g k = leastI z) ∧ ((CL.take i).all fun z => decide (z ≠ 0)) = true ∧ TabH wr) (fun iv _ => ns - (intOf iv).toNat)
  case atStart => exact ⟨0, f, rfl, by omega, HI0.out, Below.refl _ _, fun k _ => rfl, fun k z h => absurd h (by omega), rfl, HT.out w1 HB1.out⟩
  case round =>
    obtain ⟨i, g, rfl, hin, hI, _, hg1, hg2, hg3, hT⟩ := hrel
    have HI := Lib.hid hI
    have HG := Lib.hid (And.intro hg1 (And.intro hg2 hg3))
    have HTw := Lib.hid hT
    clear hI hg1 hg2 hg3 hT
    by_cases hlt : i < ns
    · obtain ⟨z, hz⟩ : ∃ z, CL[i]? = some z := ⟨_, List.getElem?_eq_getElem (by have := HOk1.out.1; omega)⟩
      obtain ⟨hz0, hz1⟩ := HOk1.out.2 i z hz
      have hgz : g i = z := (HG.out.1 i (Nat.le_refl _)).trans (HF0.out i z hz)
      obtain ⟨n, rfl⟩ : ∃ n : Nat, z = (n : Int) := ⟨z.toNat, by omega⟩
      have hco := HI.out.cell hlt
      have hfz := HI.out.froz i
      rw [hgz] at hco
      rw [← add_zero_k gw i] at hco
      have hco2 := hco
      rw [add_zero_k] at hco2
      have HZ := Lib.hid hz
      clear hz hgz
      by_cases hn0 : n = 0
      · subst hn0
        have HF := Lib.hid (show se = 3 ∧ sl = [] from by
          have h : se = 3 := by rw [HE.out.1, all_false HZ.out (by simp)]; simp
          exact ⟨h, by rw [HE.out.2, h]; simp⟩)
        go_wp2_with fail
        go_ret2
        exact ⟨⟨_, by rw [HF.out.1]; rfl, by rw [HF.out.2]; exact InSl.nil _ _, fun g e => by cases e⟩, HI.out.bel⟩
      · have hni : ¬ (n : Int) = 0 := by omega
        have HTz := Lib.hid (Tz_any n wr HTw.out (by omega) (by omega))
        have hwz : IntKind.u64.wrap (n : Int) = (n : Int) := wrap_u64 (by omega)
        obtain ⟨t, ht⟩ : ∃ t, tzN n = t := ⟨_, rfl⟩
        have HTt := Lib.hid (show leastI (n : Int) = (t : Int) from by unfold leastI; simp [ht])
        rw [ht] at HTz
        have HIs := Lib.hid (HI.out.set i (t : Int))
        have HT2 := Lib.hid (show TabH (wr.setCell ⟨gw, i, none⟩ (.int .i64 (t : Int))) from fun k hk => by rw [World.cell?_of_block ((setCell_grown' wr gw i _).block 1 (World.block_lt_of_cell? _ _ (HTw.out k hk)) (by intro e; injection e with e; have := HI.out.base; have := HTl.out; omega))]; exact HTw.out k hk)
        clear ht hn0
        go_wp2_with fail
        (with_reducible refine HTz.out.mono ?_)
        rintro e w2 ⟨rfl, rfl⟩
        go_wp2_with fail
        go_roundw
        case rel => exact ⟨i + 1, _, by go_num, by omega, HIs.out, Below.refl _ _, fun k hk => by rw [upd_other _ _ (by omega)]; exact HG.out.1 k (by omega), fun k z hk hz => by
          by_cases e : k = i
          · subst e
            rw [HZ.out] at hz; injection hz with hz; subst hz
            rw [upd_same, HTt.out]
          · rw [upd_other _ _ e]; exact HG.out.2.1 k z (by omega) hz, by rw [all_take HZ.out, HG.out.2.2]; simp; omega, HT2.out⟩
        case measure => simp [intOf]; omega
    · obtain rfl : ns = i := by omega
      have HF := Lib.hid (show se = 0 ∧ sl = CL.map leastI from by
        have h : se = 0 := by rw [HE.out.1, all_end HOk1.out.1 HG.out.2.2]; simp
        exact ⟨h, by rw [HE.out.2, h]; simp⟩)
      have HSl := Lib.hid (HI.out.sl (by omega) (L := CL.map leastI) (by rw [List.length_map, HOk1.out.1]) (fun k x hx => by
        rw [List.getElem?_map] at hx
        cases hr : CL[k]? with
        | none => rw [hr] at hx; cases hx
        | some r =>
          rw [hr] at hx
          simp only [Option.map_some, Option.some.injEq] at hx
          rw [HG.out.2.1 k r (by have := (List.getElem?_eq_some_iff.1 hr).1; have := HOk1.out.1; omega) hr, hx]))
      go_wp2_with fail
      go_ret2
      exact ⟨⟨_, by rw [HF.out.1]; rfl, by rw [HF.out.2]; exact HSl.out, fun g e => by
        have : gw = g := by simpa [Value.ownBlock] using e
        have := HI.out.base
        omega⟩, HI.out.bel⟩
end Go.Proofs.YthfegbcbpeedbaaDoor
namespace Go.Ky
open Go.Nm
def bitB (z : Int) (s : Nat) : Bool := z.toNat.testBit s
def bitI (z : Int) (s : Nat) : Int := if bitB z s = true then 1 else 0
theorem bit_eq {z : Int} (h : 0 ≤ z ∧ z ≤ 65535) (s : Nat) : bits BinOp.and IntKind.i64 (z / 2 ^ s) 1 = bitI z s := by
  obtain ⟨n, rfl⟩ : ∃ n : Nat, z = (n : Int) := ⟨z.toNat, by omega⟩
  have e : ((n : Int) / 2 ^ s) = ((n / 2 ^ s : Nat) : Int) := by simp
  have hd : n / 2 ^ s ≤ n := Nat.div_le_self _ _
  have h1 : bits BinOp.and IntKind.i64 ((n / 2 ^ s : Nat) : Int) 1 = ((n / 2 ^ s &&& 1 : Nat) : Int) := and_i64 (x := n / 2 ^ s) (y := 1) (by omega) (by decide)
  rw [e, h1]
  unfold bitI bitB
  rw [Int.toNat_natCast, Nat.testBit, Nat.shiftRight_eq_div_pow, Nat.and_comm 1]
  have h2 : (n / 2 ^ s &&& 1) = n / 2 ^ s % 2 := Nat.and_one_is_mod _
  rw [h2]
  rcases Nat.mod_two_eq_zero_or_one (n / 2 ^ s) with h3 | h3 <;> rw [h3] <;> rfl
def cntR (L : List Rw) (c : Nat) (set : Int) (s : Nat) : Int := (((L.filter fun r => bitB (meetF (r.may.getD c 0) set) s).length : Nat) : Int)
def worstF (L : List Rw) (c : Nat) (set : Int) : Int := ((List.range 16).map fun s => cntR L c set s).foldl max 0
theorem cnt_next {L : List Rw} {c : Nat} {set : Int} {s i : Nat} {r : Rw} (h : L[i]? = some r) : cntR (L.take (i + 1)) c set s = cntR (L.take i) c set s + bitI (meetF (r.may.getD c 0) set) s := by
  unfold cntR bitI
  rw [filter_take h, List.length_append]
  cases hb : bitB (meetF (r.may.getD c 0) set) s <;> simp
theorem cnt_le (L : List Rw) (c : Nat) (set : Int) (s : Nat) : 0 ≤ cntR L c set s ∧ cntR L c set s ≤ (L.length : Int) := by
  unfold cntR
  have := List.length_filter_le (fun r : Rw => bitB (meetF (r.may.getD c 0) set) s) L
  omega
theorem bitI_le (z : Int) (s : Nat) : 0 ≤ bitI z s ∧ bitI z s ≤ 1 := by unfold bitI; split <;> omega
end Go.Ky
namespace Go.Proofs.YthfegbcbpeedbaaDoor
open Go.RowKit Go.Nm Go.Ky

theorem fold_take {L : List Int} {i : Nat} {x : Int} (h : L[i]? = some x) : (L.take (i + 1)).foldl max 0 = max ((L.take i).foldl max 0) x := by
  rw [show L.take (i + 1) = L.take i ++ [x] from by rw [List.take_add_one, h]; rfl, List.foldl_append]
  rfl
set_option maxRecDepth 100000 in
set_option maxHeartbeats 4000000 in
theorem greatest_any (u : Value) (L : List Int) (w : World) (hu : InSl w w.heap.size u L) (hn : L.length ≤ 1000000) :
    Calls Tryd.prog 115 #[u] w fun e w' => e = .returned (.int .i64 (L.foldl max 0)) ∧ w = w' := by
  obtain ⟨A, c, rfl, _⟩ := hu.form
  have HA := Lib.hid (show InA w w.heap.size A L from by obtain ⟨_, _, e, _, _, h⟩ := hu; cases e; exact h)
  obtain ⟨n, h⟩ : ∃ n, L.length = n := ⟨_, rfl⟩
  have HN := Lib.hid h
  obtain ⟨r, hr⟩ : ∃ r, L.foldl max 0 = r := ⟨_, rfl⟩
  have HR := Lib.hid hr
  rw [hr]
  rw [h] at hn ⊢
  clear hu h hr
  go_enter Tryd.func115, Tryd.ntmps115
  go_wp2_with fail
  go_loopw [3, 8] (fun ov iv wr => ∃ (i : Nat) (g : Int), iv = .int .i64 (i : Int) ∧ ov = .int .i64 g ∧ i ≤ n ∧ w = wr ∧ (L.take i).foldl max 0 = g) (fun _ iv _ => n - (intOf iv).toNat)
  case atStart => exact ⟨0, 0, rfl, rfl, by omega, rfl, rfl⟩
  case round =>
    obtain ⟨i, g, rfl, rfl, hin, rfl, hg⟩ := hrel
    have HG := Lib.hid hg
    clear hg
    by_cases hlt : i < n
    · obtain ⟨x, ad, hx, rfl, _, hcx⟩ := HA.out.at_ HN.out hlt
      have HX := Lib.hid (fold_take hx)
      clear hx
      go_wp2_with fail
      go_roundw
      case rel => exact ⟨i + 1, _, by go_num, rfl, by omega, by first | trivial | rfl, by rw [HX.out, HG.out]; first | rfl | omega⟩
      case measure => simp [intOf]; omega
    · obtain rfl : n = i := by omega
      have HF := Lib.hid (show g = r from by rw [← HG.out, ← HR.out, List.take_of_length_le (by have := HN.out; omega)])
      go_wp2_with fail
      go_ret
      exact ⟨by rw [← HF.out]; rfl, rfl⟩
/-- an array of numbers of the call's own -/
structure IwT (t : TypeId) (W : World) (gw n : Nat) (f : Nat → Int) (X : World) : Prop where
  bel : Below W.heap.size W X
  cs : ∃ cs : Array Value, X.heap[gw]? = some (.cells cs t) ∧ cs.size = n ∧ ∀ k, k < n → cs[k]? = some (.int .i64 (f k))
  base : W.heap.size ≤ gw
section
variable {t : TypeId} {W X Y : World} {gw n : Nat} {f : Nat → Int}
theorem IwT.step (h : IwT t W gw n f X) (hb : Below X.heap.size X Y) : IwT t W gw n f Y := by
  obtain ⟨cs, h1, h2⟩ := h.cs
  exact ⟨h.bel.trans (hb.mono h.bel.size), ⟨cs, (hb.block _ (Array.getElem?_eq_some_iff.1 h1).1).trans h1, h2⟩, h.base⟩
theorem IwT.start {W : World} {cs : Array Value} (h1 : cs.size = n) (h2 : ∀ k, k < n → cs[k]? = some (.int .i64 0)) : IwT t W W.heap.size n (fun _ => 0) (W.alloc (.cells cs t)) :=
  ⟨below_new _, ⟨cs, World.alloc_heap_new W _, h1, h2⟩, Nat.le_refl _⟩
theorem IwT.cell (h : IwT t W gw n f X) {k : Nat} (hk : k < n) : X.cell? ⟨gw, k, none⟩ = some (.int .i64 (f k)) := by
  obtain ⟨cs, h1, h2, h3⟩ := h.cs
  simp only [World.cell?, h1]
  exact h3 k hk
theorem IwT.froz (h : IwT t W gw n f X) (k : Nat) : X.frozen? ⟨gw, k, none⟩ = false := by
  obtain ⟨cs, h1, _⟩ := h.cs
  exact frozen_cells h1 k
theorem IwT.lt (h : IwT t W gw n f X) : gw < X.heap.size := by
  obtain ⟨cs, h1, _⟩ := h.cs
  exact (Array.getElem?_eq_some_iff.1 h1).1
theorem IwT.set (h : IwT t W gw n f X) (k : Nat) (z : Int) : IwT t W gw n (updP f k z) (X.setCell ⟨gw, k, none⟩ (.int .i64 z)) := by
  obtain ⟨cs, h1, h2, h3⟩ := h.cs
  refine ⟨h.bel.setCell h.base _, ⟨cs.setIfInBounds k (.int .i64 z), heap_setCell_same X gw k _ _ _ h1, by simp [h2], fun j hj => ?_⟩, h.base⟩
  unfold updP
  by_cases e : j = k
  · subst e
    rw [Array.getElem?_setIfInBounds_self_of_lt (by omega), if_pos rfl]
  · rw [Array.getElem?_setIfInBounds_ne (by omega), h3 j hj, if_neg e]
theorem IwT.sl (h : IwT t W gw n f X) (hn : n ≤ 1000000) {L : List Int} (hL : L.length = n) (hf : ∀ k x, L[k]? = some x → f k = x) : InSl X X.heap.size (.slice (some ⟨gw, 0, none⟩) n n) L :=
  ⟨some ⟨gw, 0, none⟩, n, by rw [hL], by omega, by unfold maxLen; omega, fun i x hx => by
    have hi : i < n := by have := (List.getElem?_eq_some_iff.1 hx).1; omega
    refine ⟨⟨gw, 0, none⟩, rfl, h.lt, ?_⟩
    rw [add_zero_k, h.cell hi, hf i x hx]⟩
end
set_option maxRecDepth 100000 in
set_option maxHeartbeats 8000000 in
theorem worst_any (v : Value) (L : List Rw) (c : Nat) (set : Int) (w : World) (hv : IlSl w w.heap.size v L) (hn : L.length ≤ 1000) (hs : 0 ≤ set ∧ set ≤ 65535) (hL : ∀ r ∈ L, ∃ y, r.may[c]? = some y ∧ 0 ≤ y ∧ y ≤ 65535) :
    Calls Tryd.prog 82 #[v, .int .i64 (c : Int), .int .i64 set] w fun e w' => e = .returned (.int .i64 (worstF L c set)) ∧ Below w.heap.size w w' := by
  have HU := Lib.hid hv
  have HLr := Lib.hid hL
  obtain ⟨A, cc, rfl⟩ := hv.form
  obtain ⟨n, h⟩ : ∃ n, L.length = n := ⟨_, rfl⟩
  have HN := Lib.hid h
  rw [h] at HU hn ⊢
  have HS := Lib.hid hs
  obtain ⟨res, hres⟩ : ∃ r, worstF L c set = r := ⟨_, rfl⟩
  have HRes := Lib.hid hres
  rw [hres]
  clear hv h hL hres hs
  have HI0 := Lib.hid (IwT.start (t := 134) (W := w) (n := 16) (cs := #[.int .i64 0, .int .i64 0, .int .i64 0, .int .i64 0, .int .i64 0, .int .i64 0, .int .i64 0, .int .i64 0, .int .i64 0, .int .i64 0, .int .i64 0, .int .i64 0, .int .i64 0, .int .i64 0, .int .i64 0, .int .i64 0]) rfl (fun k hk => by
    have h : ∀ i : Fin 16, (#[.int .i64 0, .int .i64 0, .int .i64 0, .int .i64 0, .int .i64 0, .int .i64 0, .int .i64 0, .int .i64 0, .int .i64 0, .int .i64 0, .int .i64 0, .int .i64 0, .int .i64 0, .int .i64 0, .int .i64 0, .int .i64 0] : Array Value)[i.val]? = some (.int .i64 0) := fun i => by
      obtain ⟨i, hi⟩ := i
      rcases (show i = 0 ∨ i = 1 ∨ i = 2 ∨ i = 3 ∨ i = 4 ∨ i = 5 ∨ i = 6 ∨ i = 7 ∨ i = 8 ∨ i = 9 ∨ i = 10 ∨ i = 11 ∨ i = 12 ∨ i = 13 ∨ i = 14 ∨ i = 15 by omega) with rfl | rfl | rfl | rfl | rfl | rfl | rfl | rfl | rfl | rfl | rfl | rfl | rfl | rfl | rfl | rfl <;> rfl
    exact h ⟨k, hk⟩))
  obtain ⟨gw, hgw⟩ : ∃ gw, w.heap.size = gw := ⟨_, rfl⟩
  have HGw := Lib.hid hgw
  go_enter Tryd.func82, Tryd.ntmps82
  go_wp2_with fail
  obtain ⟨W1, hW1⟩ : ∃ W1, w.alloc (.cells #[.int .i64 0, .int .i64 0, .int .i64 0, .int .i64 0, .int .i64 0, .int .i64 0, .int .i64 0, .int .i64 0, .int .i64 0, .int .i64 0, .int .i64 0, .int .i64 0, .int .i64 0, .int .i64 0, .int .i64 0, .int .i64 0] 134) = W1 := ⟨_, rfl⟩
  rw [hW1] at HI0 ⊢
  rw [hgw] at HI0
  (try rw [hgw])
  clear hgw hW1
  go_loopw [14] (fun iv wr => ∃ (i : Nat) (f : Nat → Int), iv = .int .i64 (i : Int) ∧ i ≤ n ∧ IwT 134 w gw 16 f wr ∧ ∀ s, s < 16 → f s = cntR (L.take i) c set s) (fun iv _ => n - (intOf iv).toNat)
  case atStart => exact ⟨0, _, rfl, by omega, HI0.out, fun s _ => by unfold cntR; simp⟩
  case round =>
    obtain ⟨i, f, rfl, hin, hI, hf⟩ := hrel
    have HI := Lib.hid hI
    have HF := Lib.hid hf
    clear hI hf
    by_cases hlt : i < n
    · obtain ⟨r, ad, Am, cm, hr, rfl, hY⟩ := HU.out.at_ hlt
      obtain ⟨⟨d0, d1⟩, _⟩ := hY wr HI.out.bel
      obtain ⟨y, hy, hy0⟩ := HLr.out r (List.mem_of_getElem? hr)
      have HY0 := Lib.hid hy0
      have hcl : c < r.may.length := (List.getElem?_eq_some_iff.1 hy).1
      have hIx := HI.out.step (below_new (.cells #[.int .i64 r.nm, .slice Am r.may.length cm] 35))
      have HIx := Lib.hid hIx
      have HR := Lib.hid hr
      obtain ⟨_, _, e, _, _, hA⟩ := (hY _ hIx.bel).2
      obtain ⟨y', ad2, hy', ha2, _, hcy⟩ := hA.at_ rfl hcl
      rw [hy] at hy'; injection hy' with hy'; subst hy'
      injection e with e1 e2 e3
      subst e1; subst ha2
      have HGd := Lib.hid (show r.may.getD c 0 = y from by rw [List.getD_eq_getElem?_getD, hy]; rfl)
      obtain ⟨q, hq⟩ : ∃ q, r.may.length = q := ⟨_, rfl⟩
      rw [hq] at d1 hcl HIx hcy
      obtain ⟨z, hz⟩ : ∃ z, bits BinOp.and IntKind.i64 y set = z := ⟨_, rfl⟩
      have HZ := Lib.hid (show meetF y set = z ∧ 0 ≤ z ∧ z ≤ 65535 from by
        have := meet_range (x := y) (y := set) hy0 HS.out
        have e : meetF y set = z := hz
        rw [e] at this
        exact ⟨e, this.1, this.2.1⟩)
      clear hr hY hIx hA hy hq e2 e3 hy0
      go_wp2_with fail
      obtain ⟨W2, hW2⟩ : ∃ W2, wr.alloc (.cells #[.int .i64 r.nm, .slice (some ad2) q cm] 35) = W2 := ⟨_, rfl⟩
      rw [hW2] at HIx ⊢
      clear hW2 hcy d0 d1 hz
      go_loopw [25] (fun sv wr2 => ∃ (s : Nat) (g : Nat → Int), sv = .int .i64 (s : Int) ∧ s ≤ 16 ∧ IwT 134 w gw 16 g wr2 ∧ (∀ k, k < s → g k = f k + bitI z k) ∧ ∀ k, s ≤ k → g k = f k) (fun sv _ => 16 - (intOf sv).toNat)
      case atStart => exact ⟨0, f, rfl, by omega, HIx.out, fun k h => absurd h (by omega), fun k _ => rfl⟩
      case round =>
        obtain ⟨s, g, rfl, hsn, hI2, hg1, hg2⟩ := hrel
        have HI2 := Lib.hid (hI2.step (Below.refl _ _).drew)
        have HG := Lib.hid (And.intro hg1 hg2)
        have HI2w := Lib.hid hI2
        clear hI2 hg1 hg2
        by_cases hlt2 : s < 16
        · have hco := HI2.out.cell hlt2
          have hfz := HI2.out.froz s
          obtain ⟨fv, hfv⟩ : ∃ fv, g s = fv := ⟨_, rfl⟩
          have hfb : 0 ≤ fv ∧ fv ≤ 1000 := by
            have h1 := HG.out.2 s (Nat.le_refl _)
            have h2 := HF.out s hlt2
            have h3 := cnt_le (L.take i) c set s
            have h4 := List.length_take_le i L
            omega
          rw [hfv] at hco
          obtain ⟨b, hb⟩ : ∃ b, bitI z s = b := ⟨_, rfl⟩
          have hbi : bits BinOp.and IntKind.i64 (z / 2 ^ s) 1 = b := by rw [bit_eq HZ.out.2, hb]
          have hbb : 0 ≤ b ∧ b ≤ 1 := by rw [← hb]; exact bitI_le z s
          have HV := Lib.hid (And.intro hfv hb)
          obtain ⟨hfb0, hfb1⟩ := hfb
          obtain ⟨hbb0, hbb1⟩ := hbb
          have hsi : (s : Int) < 16 := by omega
          clear hfv hb
          go_wp2_with fail
          refine wp_region_tail 9 (by kernel_rfl) (by kernel_rfl) ?_
          simp only [List.take_succ_cons, List.take_zero, List.drop_succ_cons, List.drop_zero]
          iterate 9 ((with_reducible refine wpStill_step ?_); intro K hK; go_simp; (try (refine ite_neg_of (by simp [undef] <;> assumption) ?_)); (with_reducible refine hK _ ?_); clear hK K)
          (with_reducible refine wpStill_nil ?_)
          go_wp2_with fail
          go_roundw
          case rel => exact ⟨s + 1, _, by go_num, by omega, HI2.out.set s (fv + b), fun k hk => by
            by_cases e : k = s
            · subst e
              rw [upd_same, ← HV.out.1, HV.out.2, HG.out.2 k (Nat.le_refl _)]
            · rw [upd_other _ _ e]; exact HG.out.1 k (by omega), fun k hk => by rw [upd_other _ _ (by omega)]; exact HG.out.2 k (by omega)⟩
          case measure => simp [intOf]; omega
        · obtain rfl : 16 = s := by omega
          go_wp2_with fail
          go_roundw
          case rel => exact ⟨i + 1, g, by go_num, by omega, HI2w.out, fun s hs => by rw [HG.out.1 s hs, HF.out s hs, cnt_next HR.out, HGd.out, HZ.out.1]⟩
          case measure => simp [intOf]; omega
    · obtain rfl : n = i := by omega
      have HGr := Lib.hid (greatest_any (.slice (some ⟨gw, 0, none⟩) 16 16) ((List.range 16).map fun s => cntR L c set s) wr (HI.out.sl (by omega) (by simp) (fun k x hx => by
        rw [List.getElem?_map] at hx
        have hk : k < 16 := by
          by_cases h : k < 16
          · exact h
          · rw [List.getElem?_eq_none (by simp; omega)] at hx; simp at hx
        rw [List.getElem?_range hk] at hx
        simp only [Option.map_some, Option.some.injEq] at hx
        rw [HF.out k hk, ← hx, List.take_of_length_le (by have := HN.out; omega)])) (by simp))
      have HE := Lib.hid (show ((List.range 16).map fun s => cntR L c set s).foldl max 0 = res from HRes.out)
      rw [HE.out] at HGr
      go_wp2_with fail
      (with_reducible refine HGr.out.mono ?_)
      rintro e w2 ⟨rfl, rfl⟩
      go_wp2_with fail
      go_ret
      exact ⟨rfl, HI.out.bel⟩
end Go.Proofs.YthfegbcbpeedbaaDoor
