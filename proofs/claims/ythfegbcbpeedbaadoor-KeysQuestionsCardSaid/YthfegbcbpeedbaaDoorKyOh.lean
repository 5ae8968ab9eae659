/- CheckKey, begin. -/
import Derived.Test.YthfegbcbpeedbaaDoorKyOf
import Derived.Shelf.Abstract
namespace Go.Proofs.YthfegbcbpeedbaaDoor
open Go.RowKit Go.Nm Go.Ky Go.Maps Go.Shelf
attribute [local go_sem] Oper.semAt_some

set_option maxRecDepth 100000 in
set_option maxHeartbeats 4000000 in
theorem Backward_any (A : Option Addr) (n c : Nat) (w : World) :
    Calls Tryd.prog 104 #[.slice A n c] w fun e w' => e = .returned (.func (.func 124) #[] #[.pointer (some ⟨w.heap.size, 0, none⟩)]) ∧ w.alloc (.cells #[.slice A n c] 50) = w' := by
  go_enter Tryd.func104, Tryd.ntmps104
  go_wp2_with fail
  go_ret
  exact ⟨rfl, rfl⟩
theorem ak_start (w : World) (nd : List Rw) (A : Option Addr) (n c : Nat) (Y : World) (hY : (((w.alloc (.cells #[.bool false] 4)).alloc (.map #[] 0)).alloc (.cells #[.map (some (w.heap.size + 1))] 140)).alloc (.cells #[.slice A n c] 50) = Y) : AkI w nd A n c [] Y ∧ Y.heap.size = w.heap.size + 4 := by
  have n1 := World.alloc_heap_new w (.cells #[.bool false] 4)
  have b1 := below_new (w := w) (.cells #[.bool false] 4)
  obtain ⟨X1, hX1⟩ : ∃ X, w.alloc (.cells #[.bool false] 4) = X := ⟨_, rfl⟩
  have z1 : X1.heap.size = w.heap.size + 1 := by rw [← hX1]; simp
  rw [hX1] at n1 b1 hY
  have m2 := MU.made w X1 b1
  have b2 := below_new (w := X1) (.map #[] 0)
  obtain ⟨X2, hX2⟩ : ∃ X, X1.alloc (.map #[] 0) = X := ⟨_, rfl⟩
  have z2 : X2.heap.size = w.heap.size + 2 := by rw [← hX2]; simp [z1]
  rw [hX2] at m2 b2 hY
  rw [z1] at m2
  have n1 := (b2.block _ (by omega)).trans n1
  have n3 := World.alloc_heap_new X2 (.cells #[.map (some (w.heap.size + 1))] 140)
  have b3 := below_new (w := X2) (.cells #[.map (some (w.heap.size + 1))] 140)
  obtain ⟨X3, hX3⟩ : ∃ X, X2.alloc (.cells #[.map (some (w.heap.size + 1))] 140) = X := ⟨_, rfl⟩
  have z3 : X3.heap.size = w.heap.size + 3 := by rw [← hX3]; simp [z2]
  rw [hX3] at n3 b3 hY
  rw [z2] at n3
  have n1 := (b3.block _ (by omega)).trans n1
  have n4 := World.alloc_heap_new X3 (.cells #[.slice A n c] 50)
  have b4 := below_new (w := X3) (.cells #[.slice A n c] 50)
  rw [hY] at n4 b4
  rw [z3] at n4
  have z4 : Y.heap.size = w.heap.size + 4 := by rw [← hY]; simp [z3]
  have n1 := (b4.block _ (by omega)).trans n1
  have n3 := (b4.block _ (by omega)).trans n3
  have m4 := (m2.step b3).step b4
  exact ⟨⟨m4.bel, n1, m4, n3, n4, rfl⟩, z4⟩
theorem KA.of_grown {B k : Nat} {X Y : World} (hg : X.grownBy Y (some k)) (hk : k < B) : KA B none X Y :=
  ⟨hg.size, fun i o hB hi _ => (hg.block i (Array.getElem?_eq_some_iff.1 hi).1 (fun e => by injection e; omega)).trans hi⟩
theorem AkX.grown {w : World} {nd : List Rw} {cd : Code} {X Y : World} {row : Option Nat} (h : AkX w nd cd X) (hg : X.grownBy Y row) (hr : ∀ r, row = some r → w.heap.size + 4 ≤ r) : AkX w nd cd Y :=
  ⟨h.1, h.2.1.grown hg h.2.1.size (fun r e => by have := hr r e; omega), (hg.block _ (Array.getElem?_eq_some_iff.1 h.2.2.1).1 (fun e => by have := hr _ e.symm; omega)).trans h.2.2.1, h.2.2.2⟩
set_option maxRecDepth 100000 in
set_option maxHeartbeats 8000000 in
theorem asksTwice_any (u : Value) (nd : List Rw) (w : World) (hu : IlSl w w.heap.size u nd) (hn : nd.length ≤ 2000) (hc : ∀ r ∈ nd, 0 ≤ r.nm ∧ r.nm < 64) (hx : ∀ r ∈ nd, r.may.length ≤ 1000 ∧ ∀ x ∈ r.may, -2000 ≤ x ∧ x ≤ 2000) :
    Calls Tryd.prog 97 #[u] w fun e w' => e = .returned (.bool (twiceF nd)) ∧ Below w.heap.size w w' := by
  have HU := Lib.hid hu
  have HC := Lib.hid hc
  have HXr := Lib.hid hx
  obtain ⟨A, c, rfl⟩ := hu.form
  obtain ⟨n, h⟩ : ∃ n, nd.length = n := ⟨_, rfl⟩
  have HN := Lib.hid h
  rw [h] at HU hn ⊢
  have HO := Lib.hid (show (askM nd n).2 = twiceF nd from by unfold twiceF; rw [h])
  clear hu hc hx h
  have hmm := @run_makeMap Tryd.prog
  obtain ⟨nn, hnn⟩ : ∃ nn : Nat, 20 ≤ nn := ⟨20, by omega⟩
  refine (callsIn_wide (n := nn)).1 ?_
  refine callsIn_of_wp_marks Tryd.func97 rfl trivial ?_ rfl
  simp only [Tryd.ntmps97, List.size_toArray, List.length_cons, List.length_nil, Nat.reduceAdd, Nat.reduceSub, Array.replicate_succ, Array.replicate_zero, List.push_toArray, List.append_toArray, List.nil_append, List.cons_append]
  gi_wp2_with fail
  refine ⟨trivial, fun h => (by first | omega | cases h), (callsIn_wide.2 (Backward_any A n c _)).mono ?_⟩
  rintro e w2 ⟨rfl, hw2⟩
  obtain ⟨hI0, hz0⟩ := ak_start w nd A n c w2 hw2
  simp only [World.size_alloc]
  clear hw2 hmm
  gi_wp2_with fail
  refine wp_rangeG (by omega) (gf := 124) (lb := #[.pointer (some ⟨w.heap.size + 1 + 1 + 1, 0, none⟩)]) rfl (enters_of Tryd.func124 (by kernel_rfl) rfl) (encs := bxv) (fun _ => rfl)
    (fun pre ow Y => AkI w nd A n c pre Y ∧ pre.length ≤ n ∧ ow = none)
    (fun cd _ Y => AkX w nd cd Y)
    (fun ow pre P Q row h hg hr => ⟨h.1.grown hg (fun r e => by have := (hr r e).1; omega), h.2⟩)
    (fun cd pre P Q row h hg hr => AkX.grown h hg (fun r e => by have := (hr r e).1; omega))
    (fun pre ow P h k e => by rw [h.2.2] at e; cases e) none ⟨hI0, by simp, rfl⟩
    (back_iter w w2.heap.size (nn - 1) (w.heap.size + 3) (by omega) nd A n c HU.out HN.out hn _ (fun pre ow P h => ⟨h.1.bel, h.1.bbx⟩))
    (fun x a' P => ∃ Bx, w2.heap.size ≤ Bx ∧ P.heap[Bx]? = some (.cells #[.int .i64 x.2.1.nm, .slice x.2.2.1 x.2.1.may.length x.2.2.2] 65) ∧ a'.tmps.size = 40 ∧ a'.tmps.getD 2 undef = .pointer (some ⟨w.heap.size, 0, none⟩) ∧ a'.tmps.getD 3 undef = .pointer (some ⟨w.heap.size + 1 + 1, 0, none⟩) ∧ a'.tmps.getD 4 undef = .int .i64 (x.1 : Int) ∧ a'.tmps.getD 5 undef = .pointer (some ⟨Bx, 0, none⟩) ∧ a'.defers = [])
    (fun x a' _ P Q row h hg hr => by
      obtain ⟨Bx, k0, k1, k2⟩ := h
      refine ⟨Bx, k0, (hg.block _ (Array.getElem?_eq_some_iff.1 k1).1 (fun e => ?_)).trans k1, k2⟩
      obtain ⟨_, o, ho, hc⟩ := hr Bx e.symm
      rw [k1] at ho; cases ho; cases hc)
    ?assign ?body ?done ?stop
  case assign =>
    intro lr pre x ow P K' hI' hK'
    obtain ⟨i, r, Am, cm⟩ := x
    unfold bxv
    simp only
    gi_wp2_with fail
    exact hK' _ _ (.inr ⟨_, rfl⟩) ⟨P.heap.size, by have := (Array.getElem?_eq_some_iff.1 hI'.1.bbx).1; omega, World.alloc_heap_new P _, rfl, rfl, rfl, rfl, rfl, rfl⟩
  case body =>
    rintro lr pre x ow ⟨t, ds⟩ P hl ⟨rr, hrr⟩ ⟨hI, hpl, rfl⟩ ⟨Bx, hBx, hx, hsz, h2, h3, h4, h5, hd⟩ ⟨hpi, hpr, hpY⟩
    obtain ⟨i, r, Am, cm⟩ := x
    simp only at hpi hpr hpY hx h4
    obtain ⟨f', hf'⟩ := arr40 hsz
    subst hf'
    have h2' : f' 2 = .pointer (some ⟨w.heap.size, 0, none⟩) := h2
    have h3' : f' 3 = .pointer (some ⟨w.heap.size + 1 + 1, 0, none⟩) := h3
    have h4' : f' 4 = .int .i64 (i : Int) := h4
    have h5' : f' 5 = .pointer (some ⟨Bx, 0, none⟩) := h5
    have hd' : ds = [] := hd
    subst hd'
    rw [h2', h3', h4', h5']
    have hrm := List.mem_of_getElem? hpr
    obtain ⟨c0, hc0⟩ : ∃ c0 : Nat, r.nm = (c0 : Int) := ⟨r.nm.toNat, by have := HC.out r hrm; omega⟩
    have hc64 : c0 < 64 := by have := HC.out r hrm; omega
    obtain ⟨x0, x1⟩ := cells_two hx
    have m0 : P.cell? ⟨w.heap.size + 1 + 1, 0, none⟩ = some (.map (some (w.heap.size + 1))) := cell_one hI.mbx
    have r0 : P.cell? ⟨w.heap.size, 0, none⟩ = some (.bool false) := cell_one hI.res
    have rf : P.frozen? ⟨w.heap.size, 0, none⟩ = false := frozen_cells hI.res 0
    have HM := Lib.hid hI.mu
    have HA := Lib.hid (show InA P P.heap.size Am r.may from by obtain ⟨_, _, e, _, _, h⟩ := hpY P hI.bel; cases e; exact h)
    have HP := Lib.hid hI
    have HNx := Lib.hid (ask_next (i := i) (r := r) hI.no (by omega) hpr)
    have HMy := Lib.hid (HXr.out r hrm).2
    obtain ⟨q, hq⟩ : ∃ q, r.may.length = q := ⟨_, rfl⟩
    have HQ := Lib.hid hq
    have hq1 : q ≤ 1000 := by rw [← hq]; exact (HXr.out r hrm).1
    have hw : IntKind.u64.wrap ((2 : Int) ^ c0) = ((2 ^ c0 : Nat) : Int) := by
      rw [show ((2 : Int) ^ c0) = ((2 ^ c0 : Nat) : Int) from by simp]
      exact wrap_u64 (Nat.lt_of_lt_of_le (Nat.pow_lt_pow_right (by omega) hc64) (by decide))
    have e2 : (2 : Int) ^ r.nm.toNat = ((2 ^ c0 : Nat) : Int) := by rw [hc0, Int.toNat_natCast]; simp
    have HE := Lib.hid e2
    have hi1 : i < n := by have := HN.out; omega
    have HI1 := Lib.hid (show (pre ++ [((i, r, Am, cm) : Bx3)]).length = pre.length + 1 from by simp)
    have HPl := Lib.hid (show pre.length + 1 ≤ n from by have := HN.out; omega)
    rw [hc0] at x0
    rw [hq] at x1
    generalize hml : (2 ^ c0 : Nat) = own at *
    clear hml e2 h2 h3 h4 h5 hd h2' h3' h4' h5' hsz hx hI hpi hpr hpY hrm hq hc0 hBx
    obtain ⟨f, hf⟩ : ∃ f, (askM nd pre.length).1 = f := ⟨_, rfl⟩
    have HM2 := Lib.hid (show MU w (w.heap.size + 1) pre.length f P from by rw [← hf]; exact HM.out)
    have HN2 := Lib.hid (show askM nd (pre.length + 1) = (if andF (r.may.foldl (fun a x => orF a (f x)) 0) (own : Int) ≠ 0 then (f, true) else (fun k => if k = (i : Int) then orF (r.may.foldl (fun a x => orF a (f x)) 0) (own : Int) else f k, false)) from by
      rw [HNx.out]
      unfold askStep askOne
      rw [hf, HE.out])
    clear hf HM HNx HE
    gi_wp2_with fail
    clear hw
    gi_loopw [7, 21] (fun bv jv wq => ∃ (j : Nat) (acc : Int), jv = .int .i64 (j : Int) ∧ bv = .int .u64 acc ∧ j ≤ q ∧ P = wq ∧ (r.may.take j).foldl (fun a x => orF a (f x)) 0 = acc) (fun _ jv _ => q - (intOf jv).toNat)
    case atStart => exact ⟨0, 0, rfl, rfl, by omega, rfl, rfl⟩
    case round =>
      obtain ⟨j, acc, rfl, rfl, hjq, rfl, hacc⟩ := hrel
      have HAc := Lib.hid hacc
      clear hacc
      by_cases hlt : j < q
      · obtain ⟨x, ad, hx, rfl, _, hcx⟩ := HA.out.at_ HQ.out hlt
        have HX := Lib.hid (show (r.may.take (j + 1)).foldl (fun a x => orF a (f x)) 0 = bits BinOp.or IntKind.u64 acc (f x) from by rw [fold_next hx, HAc.out]; rfl)
        have HWf := Lib.hid (show (Lit.int .i64 x).wf = true from WalkArith.wf_i64 (by have := HMy.out x (List.mem_of_getElem? hx); omega))
        clear hx
        gi_wp2_with (gi_at_lookup; refine wpListIn_lookup_mu rfl _ _ rfl HM2.out rfl x rfl HWf.out ?_)
        go_roundw
        case rel => exact ⟨j + 1, _, by go_num, rfl, by omega, by first | trivial | rfl, HX.out⟩
        case measure => simp [intOf]; try omega
      · obtain rfl : q = j := by omega
        have HAl := Lib.hid (show r.may.foldl (fun a x => orF a (f x)) 0 = acc from by rw [← HAc.out, List.take_of_length_le (by have := HQ.out; omega)])
        obtain ⟨z, hz⟩ : ∃ z, bits BinOp.and IntKind.u64 acc (own : Int) = z := ⟨_, rfl⟩
        have HZ := Lib.hid hz
        by_cases h0 : z = 0
        · obtain ⟨cc, hcc⟩ : ∃ cc, bits BinOp.or IntKind.u64 acc (own : Int) = cc := ⟨_, rfl⟩
          have HCc := Lib.hid (show (Lit.int .u64 cc).wf = true from by rw [← hcc]; exact wf_bits _ _ _ _)
          have HN3 := Lib.hid (show askM nd (pre.length + 1) = (fun k => if k = (i : Int) then cc else f k, false) from by
            rw [HN2.out, if_neg (by rw [HAl.out]; show ¬ bits BinOp.and IntKind.u64 acc (own : Int) ≠ 0; rw [HZ.out, h0]; simp), HAl.out, ← hcc]; rfl)
          have HWi := Lib.hid (show (Lit.int .i64 (i : Int)).wf = true from WalkArith.wf_i64 (by omega))
          have HLn := Lib.hid (show pre.length < maxLen from by unfold maxLen; omega)
          gi_wp2_with (gi_at_mapUpdate; refine wpListIn_put_mu rfl _ _ _ rfl HM2.out HLn.out rfl (i : Int) rfl HWi.out cc rfl HCc.out ?_; intro w5 hM5 hg5; have HM5 := Lib.hid hM5; have HG5 := Lib.hid hg5; clear hM5 hg5)
          refine ⟨KA.of_grown HG5.out (by omega), none, ⟨⟨HM5.out.bel, ?_, ?_, ?_, ?_, ?_⟩, by rw [HI1.out]; exact HPl.out, rfl⟩, .inl rfl⟩
          · exact (HG5.out.block _ (Array.getElem?_eq_some_iff.1 HP.out.res).1 (by simp)).trans HP.out.res
          · rw [HI1.out, HN3.out]; exact HM5.out
          · exact (HG5.out.block _ (Array.getElem?_eq_some_iff.1 HP.out.mbx).1 (by simp)).trans HP.out.mbx
          · exact (HG5.out.block _ (Array.getElem?_eq_some_iff.1 HP.out.bbx).1 (by simp)).trans HP.out.bbx
          · rw [HI1.out, HN3.out]
        · have HT := Lib.hid (show twiceF nd = true from by
            have h1 : (askM nd (pre.length + 1)).2 = true := by
              rw [HN2.out, if_pos (by rw [HAl.out]; show bits BinOp.and IntKind.u64 acc (own : Int) ≠ 0; rw [HZ.out]; exact h0)]
            have h2 := ask_mono h1 (n - (pre.length + 1))
            rw [show pre.length + 1 + (n - (pre.length + 1)) = n from by have := HPl.out; omega] at h2
            rw [← HO.out]; exact h2)
          gi_wp2_with fail
          exact ⟨KA.of_grown (setCell_grown' P w.heap.size 0 (.bool true)) (by omega), rfl, HP.out.bel.setCell (Nat.le_refl _) _, heap_setCell_same P w.heap.size 0 _ _ (.bool true) HP.out.res, HT.out⟩
  case done =>
    rintro D xs ow P hD hxl ⟨hI, hlen, rfl⟩ hKd
    have hF : twiceF nd = false := by
      rw [← HO.out]
      have := hI.no
      rwa [show xs.length = n from hxl] at this
    have HF := Lib.hid hF
    clear hF
    have r0 : P.cell? ⟨w.heap.size, 0, none⟩ = some (.bool false) := cell_one hI.res
    have rf : P.frozen? ⟨w.heap.size, 0, none⟩ = false := frozen_cells hI.res 0
    obtain ⟨P2, hP2⟩ : ∃ P2, P.setCell ⟨w.heap.size, 0, none⟩ (.bool false) = P2 := ⟨_, rfl⟩
    have hres : P2.heap[w.heap.size]? = some (.cells #[.bool false] 4) := by rw [← hP2]; exact heap_setCell_same P w.heap.size 0 _ _ (.bool false) hI.res
    have hbel : Below w.heap.size w P2 := by rw [← hP2]; exact hI.bel.setCell (Nat.le_refl _) _
    have hKd2 : P2.heap[D]? = some (.deferred (some [])) := by rw [← hP2]; exact (heap_setCell_other P ⟨w.heap.size, 0, none⟩ D _ (fun e => by have e2 : D = w.heap.size := (by first | exact e | exact e.symm); omega)).trans hKd
    have HP2 := Lib.hid hP2
    have HH := Lib.hid (And.intro hbel (And.intro hKd2 (show w.heap.size ≤ D by omega)))
    have hcl : (P2.putObj D (.deferred none)).cell? ⟨w.heap.size, 0, none⟩ = some (.bool false) := (World.cell?_of_block (World.putObj_heap_other (by show w.heap.size ≠ D; omega))).trans (cell_one hres)
    clear hI hKd hP2 hres hbel hKd2
    gi_wp2_with fail
    rw [HP2.out]
    refine ⟨by simp, .inl ⟨_, _, rfl, run_takeDeferred HH.out.2.1, ?_⟩⟩
    refine ⟨.bool false, by simp [results, Tryd.results97, go_sem, hcl], by rw [HF.out], ?_⟩
    exact HH.out.1.grown (grownBy_putObj' P2 D (.deferred none)) HH.out.1.size (fun r e => by cases e; exact HH.out.2.2)
  case stop =>
    rintro D cd pre P hD hSp ⟨rfl, hb, hres, hT⟩ hKd
    have HT := Lib.hid hT
    have HH := Lib.hid (And.intro hb (And.intro hKd (show w.heap.size ≤ D by omega)))
    have hcl : (P.putObj D (.deferred none)).cell? ⟨w.heap.size, 0, none⟩ = some (.bool true) := (World.cell?_of_block (World.putObj_heap_other (by show w.heap.size ≠ D; omega))).trans (cell_one hres)
    clear hb hres hT hKd
    gi_wp2_with fail
    refine ⟨by simp, .inl ⟨_, _, rfl, run_takeDeferred HH.out.2.1, ?_⟩⟩
    refine ⟨.bool true, by simp [results, Tryd.results97, go_sem, hcl], by rw [HT.out], ?_⟩
    exact HH.out.1.grown (grownBy_putObj' P D (.deferred none)) HH.out.1.size (fun r e => by cases e; exact HH.out.2.2)
end Go.Proofs.YthfegbcbpeedbaaDoor
namespace Go.Ky
open Go.Nm
def ckE (m : Mx) (k : Kx) : Int := if mxF m = true then (if (leavesF k.lv && (nodesF m.st k && !twiceF k.nd)) = true then 0 else 31) else 30
theorem next_ok {i n nl : Nat} {x : Int} (h : nextF i n nl x = true) : -(nl : Int) ≤ x ∧ x < n ∧ (0 ≤ x → (i : Int) < x) ∨ (-(nl : Int) ≤ x ∧ x < 0) := by
  unfold nextF at h
  simp at h
  by_cases h0 : 0 ≤ x
  · have h1 := h.1; left; omega
  · right; omega
/-- what the nodes of a key are good for -/
structure KOk (st : List Int) (k : Kx) : Prop where
  nd : ∀ (i : Nat) (r : Rw), k.nd[i]? = some r → 0 ≤ r.nm ∧ r.nm < st.length ∧ (r.may.length : Int) = st.getD r.nm.toNat 0 ∧ ∀ x ∈ r.may, -(k.lv.length : Int) ≤ x ∧ x < k.nd.length ∧ (0 ≤ x → (i : Int) < x)
  sv : ∀ (j : Nat) (n : Int), st[j]? = some n → 2 ≤ n ∧ n ≤ 16
  len : st.length ≤ 64
  nn : k.nd.length ≤ 1000
theorem nodes_all {st : List Int} {k : Kx} (h : nodesF st k = true) : k.nd.length ≤ 1000 ∧ ∀ (i : Nat) (r : Rw), k.nd[i]? = some r → 0 ≤ r.nm ∧ r.nm < st.length ∧ (r.may.length : Int) = st.getD r.nm.toNat 0 ∧ ∀ x ∈ r.may, -(k.lv.length : Int) ≤ x ∧ x < k.nd.length ∧ (0 ≤ x → (i : Int) < x) := by
  unfold nodesF at h
  rw [Bool.and_eq_true] at h
  refine ⟨of_decide_eq_true h.2, fun i r hr => ?_⟩
  have h2 := (List.all_eq_true.1 h.1) (r, i) (List.mem_of_getElem? (idx_get hr))
  unfold nodeF at h2
  simp only [Bool.and_eq_true, decide_eq_true_eq] at h2
  have hi := (List.getElem?_eq_some_iff.1 hr).1
  refine ⟨h2.1.1.1, h2.1.1.2, h2.1.2, fun x hx => ?_⟩
  rcases next_ok ((List.all_eq_true.1 h2.2) x hx) with h3 | h3
  · exact h3
  · exact ⟨h3.1, by omega, fun h => by omega⟩
theorem chr_ok {st : List Int} (h : chrF st = true) : 0 < st.length ∧ st.length ≤ 64 ∧ ∀ (j : Nat) (n : Int), st[j]? = some n → 2 ≤ n ∧ n ≤ 16 := by
  unfold chrF at h
  rw [Bool.and_eq_true] at h
  have h1 := of_decide_eq_true h.1
  exact ⟨h1.1, h1.2, fun j n hj => of_decide_eq_true ((List.all_eq_true.1 h.2) n (List.mem_of_getElem? hj))⟩
theorem ck_ok {m : Mx} {k : Kx} (h : ckE m k = 0) : mxF m = true ∧ leavesF k.lv = true ∧ KOk m.st k := by
  unfold ckE at h
  by_cases h1 : mxF m = true
  · rw [if_pos h1] at h
    by_cases h2 : (leavesF k.lv && (nodesF m.st k && !twiceF k.nd)) = true
    · simp only [Bool.and_eq_true] at h2
      have h3 := nodes_all h2.2.1
      unfold mxF at h1
      rw [Bool.and_eq_true] at h1
      have h4 := chr_ok h1.1
      exact ⟨by unfold mxF; rw [Bool.and_eq_true]; exact h1, h2.1, h3.2, h4.2.2, h4.2.1, h3.1⟩
    · rw [if_neg h2] at h; cases h
  · rw [if_neg h1] at h; cases h
end Go.Ky
namespace Go.Proofs.YthfegbcbpeedbaaDoor
open Go.RowKit Go.Nm Go.Ky

set_option maxRecDepth 100000 in
set_option maxHeartbeats 4000000 in
theorem begin_any (u : Value) (k : Kx) (w : World) (hu : KyV w u k) (hk : KSm k) :
    Calls Tryd.prog 94 #[u] w fun e w' => e = .returned (.int .i64 (begF k)) ∧ Below w.heap.size w w' := by
  obtain ⟨A1, c1, A2, c2, W0, rfl, hW0, hb0, hK, hNd, hV, hX⟩ := ky_box hu
  have HB0 := Lib.hid hb0
  have HW0 := Lib.hid hW0
  obtain ⟨k0, k1⟩ := hX W0 (Below.refl _ _)
  obtain ⟨n, hn⟩ : ∃ n, k.nd.length = n := ⟨_, rfl⟩
  have hn1 : n ≤ 2000 := by have := hk.1; omega
  have HR := Lib.hid (show begF k = if n = 0 then -1 else 0 from by unfold begF; rw [hn])
  rw [HR.out]
  rw [hn] at k0 HW0 ⊢
  generalize k.lv.length = nl at *
  clear hu hW0 hb0 hK hNd hV hX hn hk
  by_cases h : n = 0
  · subst h
    go_enter Tryd.func94, Tryd.ntmps94
    go_wp2_with fail
    rw [HW0.out]
    (try go_wp2_with fail)
    go_ret
    exact ⟨rfl, HB0.out⟩
  · have hi : ((n : Int) == 0) = false := by simp; omega
    have hi2 : ¬ (n : Int) = 0 := by omega
    have HF := Lib.hid (show (if n = 0 then (-1 : Int) else 0) = 0 from if_neg h)
    clear h
    go_enter Tryd.func94, Tryd.ntmps94
    go_wp2_with fail
    rw [HW0.out]
    (try go_wp2_with fail)
    go_ret
    exact ⟨by first | rfl | rw [HF.out], HB0.out⟩
set_option maxRecDepth 100000 in
set_option maxHeartbeats 8000000 in
theorem CheckKey_any (v u : Value) (m : Mx) (k : Kx) (w : World) (hv : MxV w v m) (hs : MSm m) (hu : KyV w u k) (hk : KSm k) :
    Calls Tryd.prog 45 #[v, u] w fun e w' => e = .returned (.int .i64 (ckE m k)) ∧ Below w.heap.size w w' := by
  obtain ⟨A1, c1, A2, c2, W0, rfl, hW0, hb0, hM, hS, hR, hX⟩ := mx_box hv
  have hz : W0.heap.size = w.heap.size + 1 := by rw [← hW0]; simp
  obtain ⟨B1, d1, B2, d2, W1, rfl, hW1, hb1, hK, hNd, hV, hX1⟩ := ky_box (hu.step hb0)
  rw [hz] at hX1
  have HW := Lib.hid (And.intro hW0 hW1)
  have HB1 := Lib.hid (hb0.trans (hb1.mono hb0.size))
  have HX := Lib.hid (fun Y (h : Below W1.heap.size W1 Y) => And.intro (hX Y (hb1.trans (h.mono hb1.size))) (hX1 Y h))
  have HC := Lib.hid (CheckMatrix_any _ m W1 (hM W1 hb1) hs)
  have HAl := Lib.hid (fun Y (h : Below W1.heap.size W1 Y) => areLeaves_any _ k.lv Y (hV Y h) (fun L hL => by have := hk.2.2.2 L hL; omega) (by have := hk.2.1; omega))
  have HAn := Lib.hid (fun Y (h : Below W1.heap.size W1 Y) => areNodes_any _ _ m k Y (hM Y (hb1.trans (h.mono hb1.size))) (hK Y h) hs.1 hk)
  have HAt := Lib.hid (fun (hm : chrF m.st = true) (hl : leavesF k.lv = true) (hn : nodesF m.st k = true) Y (h : Below W1.heap.size W1 Y) => asksTwice_any _ k.nd Y (hNd Y h) hk.1 (fun r hr => by
    obtain ⟨i, hi, e⟩ := List.getElem_of_mem hr
    have h1 := (nodes_all hn).2 i r (by rw [← e]; exact List.getElem?_eq_getElem hi)
    have h2 := chr_ok hm
    omega) (fun r hr => by
    obtain ⟨i, hi, e⟩ := List.getElem_of_mem hr
    have h0 := nodes_all hn
    have h1 := h0.2 i r (by rw [← e]; exact List.getElem?_eq_getElem hi)
    have h3 := hk.2.1
    exact ⟨hk.2.2.1 r hr, fun x hx => by have := h1.2.2.2 x hx; omega⟩))
  have HE := Lib.hid (show ckE m k = (if mxF m = true then (if (leavesF k.lv && (nodesF m.st k && !twiceF k.nd)) = true then 0 else 31) else 30) ∧ cmE m = (if mxF m = true then 0 else 30) ∧ (mxF m = true → chrF m.st = true) from ⟨rfl, rfl, fun h => by unfold mxF at h; rw [Bool.and_eq_true] at h; exact h.1⟩)
  obtain ⟨er, her⟩ : ∃ er, ckE m k = er := ⟨_, rfl⟩
  obtain ⟨b0, hb0'⟩ : ∃ b, mxF m = b := ⟨_, rfl⟩
  obtain ⟨b1, hb1'⟩ : ∃ b, leavesF k.lv = b := ⟨_, rfl⟩
  obtain ⟨b2, hb2'⟩ : ∃ b, nodesF m.st k = b := ⟨_, rfl⟩
  obtain ⟨b3, hb3'⟩ : ∃ b, twiceF k.nd = b := ⟨_, rfl⟩
  rw [her, hb0', hb1', hb2', hb3'] at HE
  rw [hb1'] at HAl
  rw [hb2'] at HAn
  rw [hb1', hb2', hb3'] at HAt
  rw [HE.out.2.1] at HC
  rw [her]
  obtain ⟨⟨k0, k1⟩, k2, k3⟩ := HX.out W1 (Below.refl _ _)
  generalize k.nd.length = n at *
  generalize k.lv.length = nl at *
  generalize m.st.length = ns at *
  generalize m.rows.length = nr at *
  clear hv hu hs hk hW0 hb0 hM hS hR hX hz hW1 hb1 hK hNd hV hX1 her hb0' hb1' hb2' hb3'
  cases b0 with
  | false =>
    have HF := Lib.hid (show er = 30 from by rw [HE.out.1]; simp)
    simp only [Bool.false_eq_true, if_false] at HC
    clear HAl HAn HAt HE
    go_enter Tryd.func45, Tryd.ntmps45
    go_wp2_with fail
    rw [HW.out.1, HW.out.2]
    (try go_wp2_with fail)
    (with_reducible refine HC.out.mono ?_)
    rintro e w1 ⟨rfl, hb⟩
    have HB2 := Lib.hid hb
    clear hb
    go_wp2_with fail
    go_ret
    exact ⟨by rw [HF.out]; rfl, HB1.out.trans (HB2.out.mono HB1.out.size)⟩
  | true =>
    simp only [if_true] at HC
    have HE2 := Lib.hid (show er = (if (b1 && (b2 && !b3)) = true then 0 else 31) ∧ chrF m.st = true from ⟨by rw [HE.out.1]; simp, HE.out.2.2 rfl⟩)
    clear HE
    go_enter Tryd.func45, Tryd.ntmps45
    go_wp2_with fail
    rw [HW.out.1, HW.out.2]
    (try go_wp2_with fail)
    (with_reducible refine HC.out.mono ?_)
    rintro e w1 ⟨rfl, hb⟩
    have HB2 := Lib.hid hb
    have HAl1 := Lib.hid (HAl.out w1 hb)
    clear k0 k1 k2 k3
    obtain ⟨⟨k0, k1⟩, k2, k3⟩ := HX.out w1 hb
    clear hb HAl
    go_wp2_with fail
    (with_reducible refine HAl1.out.mono ?_)
    rintro e w2 ⟨rfl, rfl⟩
    cases b1 with
    | false =>
      have HF := Lib.hid (show er = 31 from by rw [HE2.out.1]; simp)
      go_wp2_with fail
      go_ret
      exact ⟨by rw [HF.out]; rfl, HB1.out.trans (HB2.out.mono HB1.out.size)⟩
    | true =>
      have HAn1 := Lib.hid (HAn.out w1 HB2.out)
      go_wp2_with fail
      (with_reducible refine HAn1.out.mono ?_)
      rintro e w3 ⟨rfl, hb⟩
      have HB3 := Lib.hid (HB2.out.trans (hb.mono HB2.out.size))
      clear hb k0 k1 k2 k3 HAn HAn1
      obtain ⟨⟨k0, k1⟩, k2, k3⟩ := HX.out w3 HB3.out
      cases b2 with
      | false =>
        have HF := Lib.hid (show er = 31 from by rw [HE2.out.1]; simp)
        go_wp2_with fail
        go_ret
        exact ⟨by rw [HF.out]; rfl, HB1.out.trans (HB3.out.mono HB1.out.size)⟩
      | true =>
        have HAt1 := Lib.hid (HAt.out HE2.out.2 (by trivial) (by trivial) w3 HB3.out)
        clear HAt
        go_wp2_with fail
        (with_reducible refine HAt1.out.mono ?_)
        rintro e w4 ⟨rfl, hb⟩
        have HB4 := Lib.hid (HB3.out.trans (hb.mono HB3.out.size))
        clear hb k0 k1 k2 k3
        cases b3 with
        | true =>
          have HF := Lib.hid (show er = 31 from by rw [HE2.out.1]; simp)
          go_wp2_with fail
          go_ret
          exact ⟨by rw [HF.out]; rfl, HB1.out.trans (HB4.out.mono HB1.out.size)⟩
        | false =>
          have HF := Lib.hid (show er = 0 from by rw [HE2.out.1]; simp)
          go_wp2_with fail
          go_ret
          exact ⟨by rw [HF.out]; rfl, HB1.out.trans (HB4.out.mono HB1.out.size)⟩
end Go.Proofs.YthfegbcbpeedbaaDoor
