
/- The reference: Trace. -/
import Derived.Test.YthfegbcbpeedbaaGreatDoorKyUn
import Derived.Test.YthfegbcbpeedbaaGreatDoorKyAs
import Derived.Test.YthfegbcbpeedbaaGreatDoorKyZ
namespace Go.Ky
open Go.Nm
def okU (z : Int) : Prop := 0 ≤ z ∧ z < 18446744073709551616
theorem or_ok (a b : Int) : okU (orF a b) := by
  have h := (BitVec.ofInt 64 a ||| BitVec.ofInt 64 b).isLt
  have e : orF a b = (((BitVec.ofInt 64 a ||| BitVec.ofInt 64 b).toNat : Nat) : Int) := wrap_u64 h
  unfold okU
  rw [e]
  omega
theorem or_zero {a : Int} (h : okU a) : orF a 0 = a := by
  obtain ⟨n, rfl⟩ : ∃ n : Nat, a = (n : Int) := ⟨a.toNat, by have := h.1; omega⟩
  have h2 : n < 18446744073709551616 := by have := h.2; omega
  have e : (BitVec.ofInt 64 (n : Int) ||| BitVec.ofInt 64 0).toNat = n := by
    rw [BitVec.toNat_or, ofInt_nat h2]
    simp
  show IntKind.u64.wrap ((BitVec.ofInt 64 (n : Int) ||| BitVec.ofInt 64 0).toNat : Int) = _
  rw [e]
  exact wrap_u64 h2
def askQ (may : List Int) (f : Int → Int) (s : Nat) : Int := (may.take s).foldl (fun a x => orF a (f x)) 0
theorem askQ_ok (may : List Int) (f : Int → Int) : ∀ s, okU (askQ may f s)
  | 0 => by unfold askQ okU; simp
  | s + 1 => by
    unfold askQ
    cases h : may[s]? with
    | none => rw [show may.take (s + 1) = may.take s from by rw [List.take_add_one, h]; simp]; exact askQ_ok may f s
    | some x => rw [fold_next h]; exact or_ok _ _
theorem askQ_yes {may : List Int} {f : Int → Int} {s : Nat} {z : Int} (h : may[s]? = some z) : askQ may f (s + 1) = orF (askQ may f s) (f z) := by
  unfold askQ; rw [fold_next h]
theorem askQ_no {may : List Int} {f : Int → Int} {s : Nat} {z : Int} (h : may[s]? = some z) (hz : f z = 0) : askQ may f (s + 1) = askQ may f s := by
  rw [askQ_yes h, hz, or_zero (askQ_ok may f s)]
theorem askQ_all {r : Rw} {f : Int → Int} : askQ r.may f r.may.length = askOne r f := by
  unfold askQ askOne
  rw [List.take_length]
theorem ask_zero (nd : List Rw) : ∀ (t : Nat) (x : Int), (x < 0 ∨ x + t < nd.length) → t ≤ nd.length → (askM nd t).1 x = 0
  | 0, _, _, _ => rfl
  | t + 1, x, hx, ht => by
    have ih := ask_zero nd t x (by omega) (by omega)
    cases h : (askM nd t).2 with
    | true => unfold askM; rw [if_pos h]; exact ih
    | false =>
      have hr : nd[nd.length - 1 - t]? = some nd[nd.length - 1 - t] := List.getElem?_eq_getElem (by omega)
      rw [ask_next h (by omega) hr]
      unfold askStep
      split
      · exact ih
      · show (if x = ((nd.length - 1 - t : Nat) : Int) then _ else _) = 0
        rw [if_neg (by omega)]
        exact ih
end Go.Ky
namespace Go.Proofs.YthfegbcbpeedbaaGreatDoor
open Go.RowKit Go.Nm Go.Ky

abbrev IwW (W : World) (gw n : Nat) (f : Nat → Int) (X : World) : Prop := IwG 109 W gw n (fun k => .int .u64 (f k)) X
theorem IwW.put {W X : World} {gw n : Nat} {f : Nat → Int} (h : IwW W gw n f X) (k : Nat) (z : Int) : IwW W gw n (updP f k z) (X.setCell ⟨gw, k, none⟩ (.int .u64 z)) := by
  have h2 := IwG.set h k (.int .u64 z)
  have e : updP (fun k => Value.int .u64 (f k)) k (.int .u64 z) = fun j => Value.int .u64 (updP f k z j) := by
    funext j
    unfold updP
    split <;> rfl
  rw [e] at h2
  exact h2
theorem IwW.get {W X : World} {gw n : Nat} {f : Nat → Int} (h : IwW W gw n f X) {k : Nat} (hk : k < n) {z : Int} (e : f k = z) : X.cell? ⟨gw, k, none⟩ = some (.int .u64 z) := by
  rw [IwG.cell h hk, e]
theorem IwW.as {W X : World} {gw n : Nat} {f g : Nat → Int} (h : IwW W gw n f X) (e : ∀ k, k < n → f k = g k) : IwW W gw n g X := by
  obtain ⟨cs, h1, h2, h3⟩ := h.cs
  exact ⟨h.bel, ⟨cs, h1, h2, fun k hk => by rw [h3 k hk, e k hk]⟩, h.base⟩
end Go.Proofs.YthfegbcbpeedbaaGreatDoor
namespace Go.Ky
open Go.Nm
theorem next_pos {i n nl : Nat} {x : Int} (h : 0 ≤ x) : nextF i n nl x = decide ((i : Int) + 1 ≤ x ∧ x ≤ (n : Int) - 1) := by
  unfold nextF
  rw [Bool.eq_iff_iff]
  simp
  omega
theorem next_neg {i n nl : Nat} {x : Int} (h : x < 0) : nextF i n nl x = !decide (x < -(nl : Int)) := by
  unfold nextF
  rw [Bool.eq_iff_iff]
  simp
  omega
theorem nodes_good {st : List Int} {k : Kx} (hn : k.nd.length ≤ 1000) (h : ∀ (i : Nat) (r : Rw), k.nd[i]? = some r → nodeF st i k.nd.length k.lv.length r = true) : nodesF st k = true := by
  unfold nodesF
  rw [Bool.and_eq_true]
  refine ⟨List.all_eq_true.2 fun p hp => ?_, decide_eq_true hn⟩
  obtain ⟨i, hi, e⟩ := List.mem_iff_getElem.1 hp
  have h1 : k.nd.zipIdx[i]? = some p := by rw [List.getElem?_eq_getElem hi, e]
  rw [List.getElem?_zipIdx] at h1
  obtain ⟨r, hr, e2⟩ := Option.map_eq_some_iff.1 h1
  rw [← e2]
  simp only [Nat.zero_add]
  exact h i r hr
theorem nodes_bad {st : List Int} {k : Kx} {i : Nat} {r : Rw} (hr : k.nd[i]? = some r) (h : nodeF st i k.nd.length k.lv.length r = false) : nodesF st k = false := by
  unfold nodesF
  rw [all_false (idx_get hr) h]
  rfl
end Go.Ky
namespace Go.Proofs.YthfegbcbpeedbaaGreatDoor
open Go.RowKit Go.Nm Go.Ky

set_option maxRecDepth 100000 in
set_option maxHeartbeats 16000000 in
theorem rasked_any (v u : Value) (m : Mx) (k : Kx) (w : World) (hv : MxV w v m) (hu : KyV w u k) (hk : KSm k) (hm : m.st.length ≤ 64) (hnd : k.nd.length ≤ 1000) :
    Calls Tryz.prog 65 #[v, u] w fun e w' => (∃ r, e = .returned (.tuple #[r, .bool (nodesF m.st k && !twiceF k.nd)])) ∧ Below w.heap.size w w' := by
  obtain ⟨A1, c1, A2, c2, W0, rfl, hW0, hb0, hM, hS, hR, hX⟩ := mx_box hv
  have hz : W0.heap.size = w.heap.size + 1 := by rw [← hW0]; simp
  obtain ⟨B1, d1, B2, d2, W1, rfl, hW1, hb1, hK, hNd, hV, hX1⟩ := ky_box (hu.step hb0)
  rw [hz] at hX1
  have HW := Lib.hid (And.intro hW0 hW1)
  have HB1 := Lib.hid (hb0.trans (hb1.mono hb0.size))
  have HX := Lib.hid (fun Y (h : Below W1.heap.size W1 Y) => And.intro (hX Y (hb1.trans (h.mono hb1.size))) (hX1 Y h))
  have HSt := Lib.hid (hS W1 hb1)
  have HNd := Lib.hid (hNd W1 (Below.refl _ _))
  obtain ⟨⟨k0, k1⟩, k2, k3⟩ := HX.out W1 (Below.refl _ _)
  obtain ⟨n, hn⟩ : ∃ n, k.nd.length = n := ⟨_, rfl⟩
  obtain ⟨nl, hnl⟩ : ∃ n, k.lv.length = n := ⟨_, rfl⟩
  obtain ⟨ns, hns⟩ : ∃ n, m.st.length = n := ⟨_, rfl⟩
  have hn1 : n ≤ 1000 := by omega
  have hs64 : ns ≤ 64 := by omega
  have hl2 : nl ≤ 2000 := by rw [← hnl]; exact hk.2.1
  have HN := Lib.hid (And.intro hn (And.intro hnl hns))
  have HSm := Lib.hid hk.2.2.1
  obtain ⟨R, hRr⟩ : ∃ R, (nodesF m.st k && !twiceF k.nd) = R := ⟨_, rfl⟩
  have HBad := Lib.hid (fun (i : Nat) (r : Rw) (hr : k.nd[i]? = some r) (h : nodeF m.st i n nl r = false) => show R = false from by rw [← hRr, nodes_bad hr (by rw [hn, hnl]; exact h)]; rfl)
  have HTw := Lib.hid (fun (t : Nat) (ht : t ≤ n) (h : (askM k.nd t).2 = true) => show R = false from by
    have h2 := ask_mono h (n - t)
    rw [show t + (n - t) = n from by omega, ← hn] at h2
    rw [← hRr, show twiceF k.nd = true from h2]
    simp)
  have HGood := Lib.hid (fun (h : ∀ (i : Nat) (r : Rw), k.nd[i]? = some r → nodeF m.st i n nl r = true) (h2 : (askM k.nd n).2 = false) => show R = true from by
    rw [← hRr, nodes_good hnd (by rw [hn, hnl]; exact h), show twiceF k.nd = false from by unfold twiceF; rw [hn]; exact h2]; rfl)
  rw [hRr]
  rw [hns] at HW HX HSt k0
  rw [hn, hnl] at HW HX
  rw [hn] at HNd k2
  rw [hnl] at k3
  rw [hns, hn, hnl]
  generalize m.rows.length = nr at *
  clear hv hu hk hm hnd hW0 hb0 hM hS hR hX hz hW1 hb1 hK hNd hV hX1 hn hnl hns hRr
  obtain ⟨zn, hzn⟩ : ∃ zn, (n : Int) - 1 = zn := ⟨_, rfl⟩
  have hwn : IntKind.i64.wrap ((n : Int) - 1) = zn := by rw [IntKind.wrap_i64]; omega
  obtain ⟨zs, hzs⟩ : ∃ zs, (ns : Int) - 1 = zs := ⟨_, rfl⟩
  have hws : IntKind.i64.wrap ((ns : Int) - 1) = zs := by rw [IntKind.wrap_i64]; omega
  have hwl : IntKind.i64.wrap (-(nl : Int)) = -(nl : Int) := by rw [IntKind.wrap_i64]; omega
  have HZn := Lib.hid hzn
  have HZs := Lib.hid hzs
  clear hzn hzs
  go_enter Tryz.func65, Tryz.ntmps65
  go_wp2_with (rw [HW.out.1, HW.out.2]; refine wpList_make_words rfl _ _ rfl n rfl rfl (by omega) ?_; intro cs hcs1 hcs2; have HI0 := Lib.hid (show IwW W1 W1.heap.size n (fun _ => 0) (W1.alloc (.cells cs 109)) from IwG.start hcs1 hcs2); clear hcs1 hcs2; generalize W1.alloc (.cells cs 109) = V at HI0 ⊢; obtain ⟨_, e2, e3⟩ := HX.out _ HI0.out.bel)
  have HIa := Lib.hid (show IwW W1 W1.heap.size n (fun x => (askM k.nd (n - n)).1 (x : Int)) V from HI0.out.as fun x _ => by rw [Nat.sub_self]; rfl)
  clear HI0 e2 e3 k0 k1 k2 k3
  go_loopw [7, 8, 9, 10, 11] (fun iv _ _ _ _ wr => ∃ (j : Nat) (z : Int), iv = .int .i64 z ∧ z = (j : Int) - 1 ∧ j ≤ n ∧ (askM k.nd (n - j)).2 = false ∧ (∀ (i : Nat) (r : Rw), j ≤ i → k.nd[i]? = some r → nodeF m.st i n nl r = true) ∧ IwW W1 W1.heap.size n (fun x => (askM k.nd (n - j)).1 (x : Int)) wr) (fun iv _ _ _ _ _ => ((intOf iv) + 1).toNat)
  case atStart => exact ⟨n, zn, rfl, HZn.out.symm, by omega, by rw [Nat.sub_self]; rfl, fun i r hi hr => by have := (List.getElem?_eq_some_iff.1 hr).1; have := HN.out.1; omega, HIa.out⟩
  case round =>
    clear HIa
    obtain ⟨j, z, rfl, hzj, hjn, hfl, hgd, hI⟩ := hrel
    have HZj := Lib.hid hzj
    have HFl := Lib.hid hfl
    have HGd := Lib.hid hgd
    have HI := Lib.hid hI
    clear hfl hgd hI
    obtain ⟨wo, rfl⟩ : ∃ z, z = wr := ⟨_, rfl⟩
    cases j with
    | zero =>
      have hz0 : ¬ 0 ≤ z := by omega
      have HF := Lib.hid (HGood.out (fun i r hr => HGd.out i r (Nat.zero_le _) hr) HFl.out)
      go_wp2_with fail
      go_ret2
      exact ⟨⟨_, by rw [HF.out]; rfl⟩, HB1.out.trans (HI.out.bel.mono HB1.out.size)⟩
    | succ i =>
      obtain rfl : z = (i : Int) := by omega
      clear hzj
      have hin : i < n := by omega
      have his : (i : Int) < (n : Int) := by omega
      have hi0 : ¬ (i : Int) < 0 := by omega
      have hi1 : (0 : Int) ≤ (i : Int) := by omega
      obtain ⟨t, ht⟩ : ∃ t, n - (i + 1) = t := ⟨_, rfl⟩
      rw [ht] at HFl HI
      have htn : i + t + 1 = n := by omega
      obtain ⟨r, ad, Am, cm, hr, rfl, hY⟩ := HNd.out.at_ hin
      obtain ⟨⟨⟨k0, k1⟩, k2, k3⟩⟩ := And.intro (HX.out wo HI.out.bel) trivial
      obtain ⟨⟨d0, d1⟩, hmy⟩ := hY wo HI.out.bel
      obtain ⟨c, hc⟩ : ∃ c, r.nm = c := ⟨_, rfl⟩
      obtain ⟨q, hq⟩ : ∃ q, r.may.length = q := ⟨_, rfl⟩
      have hqs : q ≤ 1000 := by rw [← hq]; exact HSm.out r (List.mem_of_getElem? hr)
      have HQ := Lib.hid hq
      have HRd := Lib.hid (And.intro hr hc)
      rw [hq] at d1 hmy
      rw [hc] at d0
      have HMy := Lib.hid (show ∀ Y, Below W1.heap.size W1 Y → InSl Y Y.heap.size (.slice Am q cm) r.may from fun Y h => by have h2 := (hY Y h).2; rw [hq] at h2; exact h2)
      have hbn := below_new (w := wo) (.cells #[.int .i64 c, .slice Am q cm] 55)
      have hnn := World.alloc_heap_new wo (.cells #[.int .i64 c, .slice Am q cm] 55)
      have HBn := Lib.hid (HI.out.bel.trans (hbn.mono HI.out.bel.size))
      have HJ := Lib.hid (HI.out.step hbn)
      have HNo := Lib.hid hnn
      have hwo0 : W1.heap.size < wo.heap.size := HI.out.lt
      have HWo := Lib.hid hwo0
      obtain ⟨V, hVV⟩ : ∃ V, wo.alloc (.cells #[.int .i64 c, .slice Am q cm] 55) = V := ⟨_, rfl⟩
      rw [hVV] at HBn HJ HNo
      have HVV := Lib.hid hVV
      have HWi := Lib.hid (fun Y => rwithin_any c 0 zs Y)
      obtain ⟨m0, m1⟩ := cells_two HNo.out
      clear hr hY hmy hc hq hbn hnn hwo0 hVV
      go_wp2_with fail
      rw [HVV.out]
      clear d0 d1 k0 k1 k2 k3
      obtain ⟨⟨k0, k1⟩, k2, k3⟩ := HX.out V HBn.out
      have HZz := Lib.hid (fun p : Wb V => HWi.out p.v)
      by_cases hcr : 0 ≤ c ∧ c ≤ zs
      · rw [decide_eq_true hcr] at HZz
        obtain ⟨cn, rfl⟩ : ∃ cn : Nat, c = (cn : Int) := ⟨c.toNat, by omega⟩
        have hcn : cn < ns := by have := HZs.out; omega
        have hcs : (cn : Int) < (ns : Int) := by omega
        have hc0 : ¬ (cn : Int) < 0 := by omega
        obtain ⟨y, bd, hy, rfl, _, hcy⟩ := (show InA V V.heap.size A1 m.st from by obtain ⟨_, _, e, _, _, h⟩ := HSt.out.step HBn.out; cases e; exact h).at_ HN.out.2.2 hcn
        have HY := Lib.hid hy
        have ss := fun p : Wb V => And.intro (And.intro (Wb.cell m0 p) (Wb.cell m1 p)) (And.intro (Wb.cell k0 p) (Wb.cell hcy p))
        clear hy hcr
        by_cases hqy : (q : Int) = y
        · subst hqy
          have qn : ((q : Int) != (q : Int)) = false := by simp
          clear k0 k1 k2 k3 m0 m1 hcy
          go_wp2_with fail
          refine wp_region_wb (by kernel_rfl) (by kernel_rfl) ?_; (repeat ((with_reducible refine wpQuiet_step ?_); intro K hK; go_simp; (try (refine ite_neg_of (by simp [undef]) ?_)); first | (with_reducible refine hK _ ?_; clear hK K) | (apply Exists.intro; (with_reducible refine ⟨fun _ => ?_, hK _ ?_⟩); ((go_at_call 63; exact Calls.wb (HZz.out _))); clear hK K))); (with_reducible refine wpQuiet_nil ?_); rintro w1 ⟨⟨_, hb1⟩, rfl⟩; (try dsimp only)
          have HB2 := Lib.hid (HBn.out.trans (hb1.mono HBn.out.size))
          obtain ⟨f, hf⟩ : ∃ f, (askM k.nd t).1 = f := ⟨_, rfl⟩
          have HFn := Lib.hid (fun x (h : x < 0) => show f x = 0 from by rw [← hf]; exact ask_zero k.nd t x (.inl h) (by have := HN.out.1; omega))
          have HFi := Lib.hid (show f (i : Int) = 0 from by rw [← hf]; exact ask_zero k.nd t i (.inr (by have := HN.out.1; omega)) (by have := HN.out.1; omega))
          have HSt2 := Lib.hid (show askM k.nd (t + 1) = askStep i r (askM k.nd t) from ask_next HFl.out (by have := HN.out.1; omega) HRd.out.1)
          have HFf := Lib.hid hf
          rw [hf] at HJ
          have HK0 := Lib.hid (show IwW W1 W1.heap.size n (fun x => if x = i then askQ r.may f 0 else f (x : Int)) w1 from IwW.as (HJ.out.step hb1) fun x _ => by
            by_cases e : x = i
            · subst e; rw [if_pos rfl, HFi.out]; rfl
            · rw [if_neg e])
          have HNo2 := Lib.hid ((hb1.block _ (Array.getElem?_eq_some_iff.1 HNo.out).1).trans HNo.out)
          have hwi : IntKind.i64.wrap ((i : Int) + 1) = (i : Int) + 1 := by rw [IntKind.wrap_i64]; omega
          obtain ⟨zi, hzi⟩ : ∃ zi, (i : Int) - 1 = zi := ⟨_, rfl⟩
          have hwm : IntKind.i64.wrap ((i : Int) - 1) = zi := by rw [IntKind.wrap_i64]; omega
          have HZi := Lib.hid hzi
          have HGc := Lib.hid (show (decide (0 ≤ r.nm ∧ r.nm < (m.st.length : Int)) && decide ((r.may.length : Int) = m.st.getD r.nm.toNat 0)) = true from by
            rw [HRd.out.2, HN.out.2.2, HQ.out, Int.toNat_natCast, List.getD_eq_getElem?_getD, HY.out]
            simp
            omega)
          clear hb1 ss hf hzi qn HZz
          go_wp2_with fail
          go_loopw [9, 10] (fun sv _ wr => ∃ s : Nat, sv = .int .i64 (s : Int) ∧ s ≤ q ∧ (r.may.take s).all (nextF i n nl) = true ∧ IwW W1 W1.heap.size n (fun x => if x = i then askQ r.may f s else f (x : Int)) wr ∧ wr.heap[wo.heap.size]? = some (.cells #[.int .i64 (cn : Int), .slice Am q cm] 55)) (fun sv _ _ => q - (intOf sv).toNat)
          case atStart => exact ⟨0, rfl, by omega, rfl, HK0.out, HNo2.out⟩
          case round =>
            clear HK0 HNo2
            obtain ⟨s, rfl, hsq, hal, hK, hNo⟩ := hrel
            have HAl := Lib.hid hal
            have HK := Lib.hid hK
            have HNw := Lib.hid hNo
            clear hal hK hNo
            obtain ⟨m0, m1⟩ := cells_two HNw.out
            obtain ⟨a0, ha0⟩ : ∃ a, askQ r.may f s = a := ⟨_, rfl⟩
            have HA0 := Lib.hid ha0
            have hci : wr.cell? ⟨W1.heap.size, i, none⟩ = some (.int .u64 a0) := IwW.get HK.out hin ((if_pos rfl).trans ha0)
            by_cases hls : s < q
            · obtain ⟨zz, hzz⟩ : ∃ zz, r.may[s]? = some zz := ⟨_, List.getElem?_eq_getElem (by have := HQ.out; omega)⟩
              have HZz := Lib.hid hzz
              obtain ⟨md, rfl, cz⟩ := (HMy.out wr HK.out.bel).ld hzz
              have hss1 : (s : Int) < (q : Int) := by omega
              have hs0 : ¬ (s : Int) < 0 := by omega
              have HNb := Lib.hid (fun h : nextF i n nl zz = false => show R = false from HBad.out i r HRd.out.1 (by unfold nodeF; rw [all_false HZz.out h]; simp))
              have HTk := Lib.hid (fun h : nextF i n nl zz = true => show (r.may.take (s + 1)).all (nextF i n nl) = true from by rw [all_take HZz.out, HAl.out, h]; rfl)
              obtain ⟨⟨k0, k1⟩, k2, k3⟩ := HX.out wr HK.out.bel
              clear hzz ha0
              by_cases hz0 : zz < 0
              · have hz1 : ¬ 0 ≤ zz := by omega
                by_cases hzl : zz < -(nl : Int)
                · have HF := Lib.hid (HNb.out (by rw [next_neg hz0]; simp [hzl]))
                  go_wp2_with fail
                  go_ret2
                  exact ⟨⟨_, by rw [HF.out]; rfl⟩, HB1.out.trans (HK.out.bel.mono HB1.out.size)⟩
                · have HT := Lib.hid (HTk.out (by rw [next_neg hz0]; simp [hzl]))
                  have HQn := Lib.hid (askQ_no (f := f) HZz.out (HFn.out zz hz0))
                  go_wp2_with fail
                  go_roundw
                  case rel => exact ⟨s + 1, by go_num, by omega, HT.out, by rw [HQn.out]; exact HK.out, HNw.out⟩
                  case measure => simp [intOf]; omega
              · have hz1 : 0 ≤ zz := by omega
                have HWz := Lib.hid (rwithin_any zz ((i : Int) + 1) zn wr)
                by_cases hzr : (i : Int) + 1 ≤ zz ∧ zz ≤ zn
                · rw [decide_eq_true hzr] at HWz
                  have HT := Lib.hid (HTk.out (by rw [next_pos hz1]; exact decide_eq_true ⟨hzr.1, by have := HZn.out; omega⟩))
                  have HQy := Lib.hid (askQ_yes (f := f) HZz.out)
                  obtain ⟨jn, rfl⟩ : ∃ jn : Nat, zz = (jn : Int) := ⟨zz.toNat, by omega⟩
                  have hjn1 : jn < n := by have := HZn.out; omega
                  have hjni : ¬ jn = i := by omega
                  have hjs : (jn : Int) < (n : Int) := by omega
                  obtain ⟨fj, hfj⟩ : ∃ fj, f (jn : Int) = fj := ⟨_, rfl⟩
                  obtain ⟨o, ho⟩ : ∃ o, bits BinOp.or IntKind.u64 a0 fj = o := ⟨_, rfl⟩
                  have HO := Lib.hid (show askQ r.may f (s + 1) = o from by rw [HQy.out, HA0.out, hfj]; exact ho)
                  have HFj := Lib.hid hfj
                  clear hzr hfj
                  go_wp2_with fail
                  (with_reducible refine HWz.out.mono ?_)
                  rintro e w2 ⟨rfl, hb⟩
                  have HK2 := Lib.hid (HK.out.step hb)
                  have HNw2 := Lib.hid ((hb.block _ (Array.getElem?_eq_some_iff.1 HNw.out).1).trans HNw.out)
                  clear hb hci m0 m1 cz k0 k1 k2 k3
                  have ci : w2.cell? ⟨W1.heap.size, i, none⟩ = some (.int .u64 a0) := IwW.get HK2.out hin ((if_pos rfl).trans HA0.out)
                  have cj : w2.cell? ⟨W1.heap.size, jn, none⟩ = some (.int .u64 fj) := IwW.get HK2.out hjn1 ((if_neg hjni).trans HFj.out)
                  have fi := HK2.out.froz i
                  have HP := Lib.hid ((IwW.put HK2.out i o).step (Below.refl _ _).drew)
                  have HP3 := Lib.hid (show (w2.setCell ⟨W1.heap.size, i, none⟩ (.int .u64 o)).drew.heap[wo.heap.size]? = _ from (heap_setCell_other w2 ⟨W1.heap.size, i, none⟩ wo.heap.size (.int .u64 o) (by have h := HWo.out; show wo.heap.size ≠ W1.heap.size; omega)).trans HNw2.out)
                  go_wp2_with fail
                  refine wp_region_tail 12 (by kernel_rfl) (by kernel_rfl) ?_
                  simp only [List.take_succ_cons, List.take_zero, List.drop_succ_cons, List.drop_zero]
                  repeat still_step
                  refine wpStill_nil ?_
                  go_wp2_with fail
                  go_roundw
                  case rel => exact ⟨s + 1, by go_num, by omega, HT.out, IwW.as HP.out fun x _ => by
                    unfold updP
                    by_cases e : x = i
                    · rw [if_pos e, if_pos e, HO.out]
                    · rw [if_neg e, if_neg e]; exact if_neg e, HP3.out⟩
                  case measure => simp [intOf]; omega
                · rw [decide_eq_false hzr] at HWz
                  have HF := Lib.hid (HNb.out (by rw [next_pos hz1]; exact decide_eq_false (fun h => hzr ⟨h.1, by have := HZn.out; omega⟩)))
                  clear hzr
                  go_wp2_with fail
                  (with_reducible refine HWz.out.mono ?_)
                  rintro e w2 ⟨rfl, hb⟩
                  have HB3 := Lib.hid (HK.out.bel.trans (hb.mono HK.out.bel.size))
                  clear hb hci m0 m1 cz k0 k1 k2 k3
                  go_wp2_with fail
                  go_ret2
                  exact ⟨⟨_, by rw [HF.out]; rfl⟩, HB1.out.trans (HB3.out.mono HB1.out.size)⟩
            · obtain rfl : q = s := by omega
              have HQa := Lib.hid (show askQ r.may f q = askOne r f from by rw [← HQ.out]; exact askQ_all)
              have hcn64 : cn < 64 := by omega
              have hpw : IntKind.u64.wrap ((2 : Int) ^ cn) = 2 ^ cn := by
                have h1 : (2 : Nat) ^ cn < 2 ^ 64 := Nat.pow_lt_pow_right (by omega) hcn64
                rw [show ((2 : Int) ^ cn) = ((2 ^ cn : Nat) : Int) from by simp]
                exact wrap_u64 (by simpa using h1)
              obtain ⟨pw, hpp⟩ : ∃ p, (2 : Int) ^ cn = p := ⟨_, rfl⟩
              rw [hpp] at hpw
              obtain ⟨b, hbb⟩ : ∃ b, bits BinOp.and IntKind.u64 a0 pw = b := ⟨_, rfl⟩
              have HSp := Lib.hid (show askM k.nd (t + 1) = (if b ≠ 0 then (f, true) else (fun x => if x = (i : Int) then orF a0 pw else f x, false)) from by
                rw [HSt2.out, ← hbb, ← HA0.out, HQa.out, ← hpp]
                unfold askStep
                rw [HFf.out, HRd.out.2, Int.toNat_natCast]
                rfl)
              clear ha0
              by_cases hb0 : b = 0
              · subst hb0
                have hqn : ((0 : Int) != 0) = false := by simp
                obtain ⟨o, ho⟩ : ∃ o, bits BinOp.or IntKind.u64 a0 pw = o := ⟨_, rfl⟩
                have HE := Lib.hid (show (askM k.nd (t + 1)).2 = false ∧ ∀ x : Int, (askM k.nd (t + 1)).1 x = if x = (i : Int) then o else f x from by
                  rw [HSp.out, if_neg (by simp), ← ho]
                  exact ⟨rfl, fun x => rfl⟩)
                have fi := HK.out.froz i
                have HP := Lib.hid (IwW.put HK.out i o)
                have HNi := Lib.hid (show n - i = t + 1 from by omega)
                have HAll := Lib.hid (show nodeF m.st i n nl r = true from by
                  unfold nodeF
                  rw [HGc.out, show r.may.all (nextF i n nl) = true from all_end HQ.out HAl.out]
                  rfl)
                go_wp2_with fail
                go_roundw
                case rel => exact ⟨i, zi, by first | rfl | go_num, HZi.out.symm, by omega, by rw [HNi.out]; exact HE.out.1, fun x r2 hx hr2 => by
                  by_cases e : x = i
                  · subst e
                    obtain rfl : r = r2 := Option.some.inj (HRd.out.1.symm.trans hr2)
                    exact HAll.out
                  · exact HGd.out x r2 (by omega) hr2, by
                  rw [HNi.out]
                  exact IwW.as HP.out fun x _ => by
                    rw [HE.out.2]
                    unfold updP
                    by_cases e : x = i
                    · rw [if_pos e, if_pos (by omega)]
                    · rw [if_neg e, if_neg (by omega)]; exact if_neg e⟩
                case measure => simp [intOf]; have := HZi.out; omega
              · have hqn : (b != 0) = true := by simp [hb0]
                have HF := Lib.hid (HTw.out (t + 1) (by omega) (by rw [HSp.out, if_pos hb0]))
                go_wp2_with fail
                go_ret2
                exact ⟨⟨_, by rw [HF.out]; rfl⟩, HB1.out.trans (HK.out.bel.mono HB1.out.size)⟩
        · have qn : ((q : Int) != y) = true := by simp [hqy]
          have HF := Lib.hid (HBad.out i r HRd.out.1 (by
            unfold nodeF
            rw [HRd.out.2, Int.toNat_natCast, List.getD_eq_getElem?_getD, HY.out, HQ.out, decide_eq_false (p := ((q : Int) = (some y).getD 0)) hqy]
            simp))
          clear k0 k1 k2 k3 m0 m1 hcy
          go_wp2_with fail
          refine wp_region_wb (by kernel_rfl) (by kernel_rfl) ?_; (repeat ((with_reducible refine wpQuiet_step ?_); intro K hK; go_simp; (try (refine ite_neg_of (by simp [undef]) ?_)); first | (with_reducible refine hK _ ?_; clear hK K) | (apply Exists.intro; (with_reducible refine ⟨fun _ => ?_, hK _ ?_⟩); ((go_at_call 63; exact Calls.wb (HZz.out _))); clear hK K))); (with_reducible refine wpQuiet_nil ?_); rintro w1 ⟨⟨_, hb1⟩, rfl⟩; (try dsimp only)
          have HB2 := Lib.hid (HBn.out.trans (hb1.mono HBn.out.size))
          clear hb1 ss
          go_wp2_with fail
          go_ret2
          exact ⟨⟨_, by rw [HF.out]; rfl⟩, HB1.out.trans (HB2.out.mono HB1.out.size)⟩
      · rw [decide_eq_false hcr] at HZz
        have HF := Lib.hid (HBad.out i r HRd.out.1 (by
          unfold nodeF
          rw [HRd.out.2, decide_eq_false (show ¬ (0 ≤ c ∧ c < (m.st.length : Int)) from by rw [HN.out.2.2]; have := HZs.out; omega)]
          rfl))
        have ss := fun p : Wb V => And.intro (And.intro (Wb.cell m0 p) (Wb.cell m1 p)) (Wb.cell k0 p)
        clear hcr k0 k1 k2 k3 m0 m1
        go_wp2_with fail
        refine wp_region_wb (by kernel_rfl) (by kernel_rfl) ?_; (repeat ((with_reducible refine wpQuiet_step ?_); intro K hK; go_simp; (try (refine ite_neg_of (by simp [undef]) ?_)); first | (with_reducible refine hK _ ?_; clear hK K) | (apply Exists.intro; (with_reducible refine ⟨fun _ => ?_, hK _ ?_⟩); ((go_at_call 63; exact Calls.wb (HZz.out _))); clear hK K))); (with_reducible refine wpQuiet_nil ?_); rintro w1 ⟨⟨_, hb1⟩, rfl⟩; (try dsimp only)
        have HB2 := Lib.hid (HBn.out.trans (hb1.mono HBn.out.size))
        clear hb1 ss
        go_wp2_with fail
        go_ret2
        exact ⟨⟨_, by rw [HF.out]; rfl⟩, HB1.out.trans (HB2.out.mono HB1.out.size)⟩
end Go.Proofs.YthfegbcbpeedbaaGreatDoor
namespace Go.Proofs.YthfegbcbpeedbaaGreatDoor
open Go.RowKit Go.Nm Go.Ky

set_option maxRecDepth 100000 in
set_option maxHeartbeats 16000000 in
theorem rCheckKey_any (v u : Value) (m : Mx) (k : Kx) (w : World) (hv : MxV w v m) (hs : MSm m) (hu : KyV w u k) (hk : KSm k) :
    Calls Tryz.prog 30 #[v, u] w fun e w' => e = .returned (.int .i64 (ckE m k)) ∧ Below w.heap.size w w' := by
  obtain ⟨A1, c1, A2, c2, W0, rfl, hW0, hb0, hM, hS, hR, hX⟩ := mx_box hv
  have hz : W0.heap.size = w.heap.size + 1 := by rw [← hW0]; simp
  obtain ⟨B1, d1, B2, d2, W1, rfl, hW1, hb1, hK, hNd, hV, hX1⟩ := ky_box (hu.step hb0)
  rw [hz] at hX1
  have HW := Lib.hid (And.intro hW0 hW1)
  have HB1 := Lib.hid (hb0.trans (hb1.mono hb0.size))
  have HX := Lib.hid (fun Y (h : Below W1.heap.size W1 Y) => And.intro (hX Y (hb1.trans (h.mono hb1.size))) (hX1 Y h))
  have HC := Lib.hid (rCheckMatrix_any _ m W1 (hM W1 hb1) hs)
  have HAs := Lib.hid (fun (h1 : m.st.length ≤ 64) (h2 : k.nd.length ≤ 1000) Y (h : Below W1.heap.size W1 Y) => rasked_any _ _ m k Y (hM Y (hb1.trans (h.mono hb1.size))) (hK Y h) hk h1 h2)
  have HLv := Lib.hid (fun Y (h : Below W1.heap.size W1 Y) => hV Y h)
  have HLl := Lib.hid hk.2.2.2
  have HCm := Lib.hid (show cmE m = if mxF m = true then 0 else 30 from rfl)
  have H64 := Lib.hid (fun h : mxF m = true => show m.st.length ≤ 64 from by
    have h2 := mx_chr h
    unfold chrF at h2
    rw [Bool.and_eq_true] at h2
    exact (of_decide_eq_true h2.1).2)
  have HE := Lib.hid (show ckE m k = if mxF m = true then (if (((k.lv.all fun l => decide (Nms l)) && decide (0 < k.lv.length ∧ k.lv.length ≤ 1000)) && (nodesF m.st k && !twiceF k.nd)) = true then 0 else 31) else 30 from rfl)
  have HNf := Lib.hid (fun h : ¬ k.nd.length ≤ 1000 => show nodesF m.st k = false from by unfold nodesF; rw [decide_eq_false h]; simp)
  obtain ⟨⟨k0, k1⟩, k2, k3⟩ := HX.out W1 (Below.refl _ _)
  obtain ⟨n, hn⟩ : ∃ n, k.nd.length = n := ⟨_, rfl⟩
  obtain ⟨nl, hnl⟩ : ∃ n, k.lv.length = n := ⟨_, rfl⟩
  obtain ⟨ce, hce⟩ : ∃ c, ckE m k = c := ⟨_, rfl⟩
  obtain ⟨cm, hcm⟩ : ∃ c, cmE m = c := ⟨_, rfl⟩
  obtain ⟨ok, hok⟩ : ∃ c, (nodesF m.st k && !twiceF k.nd) = c := ⟨_, rfl⟩
  have HN := Lib.hid (And.intro hn hnl)
  have HOk := Lib.hid hok
  have hnl2 : nl ≤ 2000 := by rw [← hnl]; exact hk.2.1
  rw [hn, hnl] at HW HX HAs
  rw [hn] at k2 HNf
  rw [hnl] at k3 HLv HE
  rw [hcm] at HC HCm
  rw [hce, hok] at HE
  rw [hok] at HAs
  rw [hce, hn, hnl]
  generalize m.st.length = ns at *
  generalize m.rows.length = nr at *
  clear hv hs hu hk hW0 hb0 hM hS hR hX hz hW1 hb1 hK hNd hV hX1 hn hnl hce hcm hok
  go_enter Tryz.func30, Tryz.ntmps30
  go_wp2_with fail
  rw [HW.out.1, HW.out.2]
  (try go_wp2_with fail)
  (with_reducible refine HC.out.mono ?_)
  rintro e w1 ⟨rfl, hb⟩
  have HB2 := Lib.hid hb
  clear hb k0 k1 k2 k3 HC
  obtain ⟨⟨k0, k1⟩, k2, k3⟩ := HX.out w1 HB2.out
  cases hmx : mxF m with
  | false =>
    rw [hmx] at HCm HE
    have HF := Lib.hid (show cm = 30 ∧ ce = 30 from ⟨by rw [HCm.out]; rfl, by rw [HE.out]; rfl⟩)
    obtain rfl : cm = 30 := HF.out.1
    clear hmx
    go_wp2_with fail
    go_ret
    exact ⟨by rw [HF.out.2]; rfl, HB1.out.trans (HB2.out.mono HB1.out.size)⟩
  | true =>
  have hm64 := H64.out hmx
  rw [hmx] at HCm HE
  obtain rfl : cm = 0 := by rw [HCm.out]; rfl
  have HE1 := Lib.hid (show ce = if (((k.lv.all fun l => decide (Nms l)) && decide (0 < nl ∧ nl ≤ 1000)) && ok) = true then 0 else 31 from by rw [HE.out, if_pos rfl])
  clear hmx HE HCm H64
  by_cases hn1 : n ≤ 1000
  · have HAs1 := Lib.hid (HAs.out hm64 hn1)
    have hni : ¬ (1000 : Int) < (n : Int) := by omega
    have HWi := Lib.hid (rwithin_any (nl : Int) 1 1000 w1)
    by_cases hl1 : 1 ≤ (nl : Int) ∧ (nl : Int) ≤ 1000
    · rw [decide_eq_true hl1] at HWi
      have HE2 := Lib.hid (show ce = if ((k.lv.all fun l => decide (Nms l)) && ok) = true then 0 else 31 from by rw [HE1.out, decide_eq_true (show 0 < nl ∧ nl ≤ 1000 from by omega), Bool.and_true])
      clear hl1 HE1
      go_wp2_with fail
      (with_reducible refine HWi.out.mono ?_)
      rintro e w2 ⟨rfl, hb⟩
      have HB3 := Lib.hid (HB2.out.trans (hb.mono HB2.out.size))
      clear hb k0 k1 k2 k3
      obtain ⟨⟨k0, k1⟩, k2, k3⟩ := HX.out w2 HB3.out
      go_wp2_with fail
      clear k0 k1 k2 k3
      go_loopw [5] (fun iv wr => ∃ i : Nat, iv = .int .i64 (i : Int) ∧ i ≤ nl ∧ ((k.lv.take i).all fun l => decide (Nms l)) = true ∧ Below W1.heap.size W1 wr) (fun iv _ => nl - (intOf iv).toNat)
      case atStart => exact ⟨0, rfl, by omega, rfl, HB3.out⟩
      case round =>
        obtain ⟨i, rfl, hin, hal, hb⟩ := hrel
        have HAl := Lib.hid hal
        have HBi := Lib.hid hb
        clear hal hb
        obtain ⟨⟨k0, k1⟩, k2, k3⟩ := HX.out wr HBi.out
        by_cases hlt : i < nl
        · obtain ⟨ad, ul, l, rfl, _, hl, hc, hul⟩ := (HLv.out wr HBi.out).at_ hlt
          obtain ⟨Au, cu, rfl, _⟩ := hul.form
          have HLi := Lib.hid hl
          have HRs := Lib.hid (rrising_any _ l wr (hul.mono (Nat.le_refl _)) (by have := HLl.out l (List.mem_of_getElem? hl); omega))
          obtain ⟨b, hbb⟩ : ∃ b, decide (Nms l) = b := ⟨_, rfl⟩
          have HBb := Lib.hid hbb
          rw [hbb] at HRs
          have his : (i : Int) < (nl : Int) := by omega
          have hi0 : ¬ (i : Int) < 0 := by omega
          generalize l.length = ln at *
          clear hl hul hbb
          cases b with
          | false =>
            have HF := Lib.hid (show ce = 31 from by rw [HE2.out, all_false HLi.out HBb.out]; rfl)
            go_wp2_with fail
            (with_reducible refine HRs.out.mono ?_)
            rintro e w3 ⟨rfl, hb⟩
            have HB4 := Lib.hid (HBi.out.trans (hb.mono HBi.out.size))
            clear hb k0 k1 k2 k3 hc
            go_wp2_with fail
            go_ret
            exact ⟨by rw [HF.out]; rfl, HB1.out.trans (HB4.out.mono HB1.out.size)⟩
          | true =>
            have HT := Lib.hid (show ((k.lv.take (i + 1)).all fun l => decide (Nms l)) = true from by rw [all_take HLi.out, HAl.out, HBb.out]; rfl)
            go_wp2_with fail
            (with_reducible refine HRs.out.mono ?_)
            rintro e w3 ⟨rfl, hb⟩
            have HB4 := Lib.hid (HBi.out.trans (hb.mono HBi.out.size))
            clear hb k0 k1 k2 k3 hc
            go_wp2_with fail
            go_roundw
            case rel => exact ⟨i + 1, by go_num, by omega, HT.out, HB4.out⟩
            case measure => simp [intOf]; omega
        · obtain rfl : nl = i := by omega
          have HE3 := Lib.hid (show ce = if ok = true then 0 else 31 from by rw [HE2.out, all_end HN.out.2 HAl.out, Bool.true_and])
          have HAs2 := Lib.hid (HAs1.out wr HBi.out)
          go_wp2_with fail
          (with_reducible refine HAs2.out.mono ?_)
          rintro e w3 ⟨⟨rv, rfl⟩, hb⟩
          have HB4 := Lib.hid (HBi.out.trans (hb.mono HBi.out.size))
          clear hb k0 k1 k2 k3
          cases ok with
          | true =>
            have HF := Lib.hid (show ce = 0 from by rw [HE3.out]; rfl)
            go_wp2_with fail
            go_ret
            exact ⟨by rw [HF.out]; rfl, HB1.out.trans (HB4.out.mono HB1.out.size)⟩
          | false =>
            have HF := Lib.hid (show ce = 31 from by rw [HE3.out]; rfl)
            go_wp2_with fail
            go_ret
            exact ⟨by rw [HF.out]; rfl, HB1.out.trans (HB4.out.mono HB1.out.size)⟩
    · rw [decide_eq_false hl1] at HWi
      have HF := Lib.hid (show ce = 31 from by rw [HE1.out, decide_eq_false (show ¬ (0 < nl ∧ nl ≤ 1000) from by omega)]; simp)
      clear hl1
      go_wp2_with fail
      (with_reducible refine HWi.out.mono ?_)
      rintro e w2 ⟨rfl, hb⟩
      have HB3 := Lib.hid (HB2.out.trans (hb.mono HB2.out.size))
      clear hb k0 k1 k2 k3
      go_wp2_with fail
      go_ret
      exact ⟨by rw [HF.out]; rfl, HB1.out.trans (HB3.out.mono HB1.out.size)⟩
  · have hni : (1000 : Int) < (n : Int) := by omega
    have HF := Lib.hid (show ce = 31 from by
      rw [HE1.out, ← HOk.out, HNf.out hn1]
      simp)
    go_wp2_with fail
    go_ret
    exact ⟨by rw [HF.out]; rfl, HB1.out.trans (HB2.out.mono HB1.out.size)⟩
end Go.Proofs.YthfegbcbpeedbaaGreatDoor
namespace Go.Ky
open Go.Nm
theorem spec_next {st l : List Int} {i : Nat} {q x : Int} (h1 : st[i]? = some q) (h2 : l[i]? = some x) : ((st.zip l).take (i + 1)).all (fun p => decide (0 ≤ p.2 ∧ p.2 < p.1)) = (((st.zip l).take i).all (fun p => decide (0 ≤ p.2 ∧ p.2 < p.1)) && decide (0 ≤ x ∧ x < q)) :=
  all_take (zip_get h1 h2)
end Go.Ky
namespace Go.Proofs.YthfegbcbpeedbaaGreatDoor
open Go.RowKit Go.Nm Go.Ky

end Go.Proofs.YthfegbcbpeedbaaGreatDoor
