
/- Clone, meanings, Means, Names. -/
import Derived.Test.YtplpogonkfnafaaGreatNmBb
import Derived.Lib.SliceRun
import Derived.StillTailTactics
namespace Go.Proofs.YtplpogonkfnafaaGreat
open Go.RowKit Go.Nm

set_option maxRecDepth 100000 in
set_option maxHeartbeats 2000000 in
theorem clone_any (u : Value) (L : List Int) (w : World) (hu : InSl w w.heap.size u L) (hn : L.length ≤ 1000000) :
    Calls Tryz.prog 73 #[u] w fun e w' => ∃ r, e = .returned r ∧ OwN w r L w' := by
  have u22 : ∀ (w : World) (a : Option Addr) (n c n' c' : Nat), (binOp .eql 22 (.slice a n c) (.slice none n' c')).run Tryz.prog w = .ok (.bool a.isNone) w := fun w a n c n' c' => Lib.run_eql_slice_nil w _ _ a n c n' c' Tryz.underlying22
  obtain ⟨A, c, rfl, hc, hcm, hA⟩ := hu
  cases A with
  | none =>
    have h0 := hA.none_nil
    subst h0
    have HO := Lib.hid (OwN.start w)
    clear hA
    go_enter Tryz.func73, Tryz.ntmps73
    go_wp2_with fail
    go_ret
    exact ⟨_, rfl, HO.out⟩
  | some ad =>
    have HC := Lib.hid ((hA.below (below_new (.cells #[] 3))).cells)
    obtain ⟨i0, hi0, hz0, hz1, hz2⟩ := infoI
    have HZ := Lib.hid (show i0.size = 1 ∧ i0.bytes = 8 ∧ Tryz.prog.info? 3 = some i0 ∧ i0.zero = some (.int .i64 0) from ⟨hz1, hz2, hi0, hz0⟩)
    have HO0 := Lib.hid (show (w.alloc (.cells #[] 3)).ownsRow w.heap.size 3 1 (.slice (some ⟨w.heap.size, 0, none⟩) 0 0) 0 (intsV []) from World.ownsRow_lit (size := 1) w #[] 0 (Nat.le_refl _) (by unfold maxLen; omega) rfl)
    have HI0 := Lib.hid (show OwN w (.slice (some ⟨w.heap.size, 0, none⟩) 0 0) [] (w.alloc (.cells #[] 3)) from ⟨below_new _, HO0.out⟩)
    have HLn := Lib.hid (intsV_len L)
    have HOne := Lib.hid (intsV_one L)
    clear hA hz0 hz1 hz2 hi0
    go_enter Tryz.func73, Tryz.ntmps73
    go_wp2_with (at_builtin; refine wpList_append_own _ rfl _ _ 22 rfl w.heap.size 3 i0 (.int .i64 0) 1 8 Tryz.underlying22 HZ.out.2.2.1 HZ.out.2.2.2 HZ.out.1 HZ.out.2.1 rfl (by decide) (.slice (some ⟨w.heap.size, 0, none⟩) 0 0) 0 (intsV []) rfl HO0.out ad L.length c (intsV L) rfl (by rw [HLn.out, Nat.mul_one]) HC.out HOne.out (by unfold maxLen; omega) (by omega) (by simp) ?_; intro v4 w4 hown4 hg4 hnn4)
    have HO4 := Lib.hid (show OwN w v4 ([] ++ L) w4 from HI0.out.grown (M := L) (Below.refl _ _) hg4 hown4)
    clear hown4 hg4 hnn4
    go_wp2_with fail
    go_ret
    exact ⟨_, rfl, HO4.out⟩
set_option maxRecDepth 100000 in
set_option maxHeartbeats 2000000 in
theorem cloneV_any (u : Value) (L : List Int) (w : World) (hu : InSl w w.heap.size u L) (hn : L.length ≤ 1000000) :
    Calls Tryz.prog 37 #[u] w fun e w' => ∃ r, e = .returned r ∧ OwN w r L w' := by
  have u22 : ∀ (w : World) (a : Option Addr) (n c n' c' : Nat), (binOp .eql 58 (.slice a n c) (.slice none n' c')).run Tryz.prog w = .ok (.bool a.isNone) w := fun w a n c n' c' => Lib.run_eql_slice_nil w _ _ a n c n' c' Tryz.underlying58
  obtain ⟨A, c, rfl, hc, hcm, hA⟩ := hu
  cases A with
  | none =>
    have h0 := hA.none_nil
    subst h0
    have HO := Lib.hid (OwN.start w)
    clear hA
    go_enter Tryz.func37, Tryz.ntmps37
    go_wp2_with fail
    go_ret
    exact ⟨_, rfl, HO.out⟩
  | some ad =>
    have HC := Lib.hid ((hA.below (below_new (.cells #[] 3))).cells)
    obtain ⟨i0, hi0, hz0, hz1, hz2⟩ := infoI
    have HZ := Lib.hid (show i0.size = 1 ∧ i0.bytes = 8 ∧ Tryz.prog.info? 3 = some i0 ∧ i0.zero = some (.int .i64 0) from ⟨hz1, hz2, hi0, hz0⟩)
    have HO0 := Lib.hid (show (w.alloc (.cells #[] 3)).ownsRow w.heap.size 3 1 (.slice (some ⟨w.heap.size, 0, none⟩) 0 0) 0 (intsV []) from World.ownsRow_lit (size := 1) w #[] 0 (Nat.le_refl _) (by unfold maxLen; omega) rfl)
    have HI0 := Lib.hid (show OwN w (.slice (some ⟨w.heap.size, 0, none⟩) 0 0) [] (w.alloc (.cells #[] 3)) from ⟨below_new _, HO0.out⟩)
    have HLn := Lib.hid (intsV_len L)
    have HOne := Lib.hid (intsV_one L)
    clear hA hz0 hz1 hz2 hi0
    go_enter Tryz.func37, Tryz.ntmps37
    go_wp2_with (at_builtin; refine wpList_append_own _ rfl _ _ 58 rfl w.heap.size 3 i0 (.int .i64 0) 1 8 Tryz.underlying58 HZ.out.2.2.1 HZ.out.2.2.2 HZ.out.1 HZ.out.2.1 rfl (by decide) (.slice (some ⟨w.heap.size, 0, none⟩) 0 0) 0 (intsV []) rfl HO0.out ad L.length c (intsV L) rfl (by rw [HLn.out, Nat.mul_one]) HC.out HOne.out (by unfold maxLen; omega) (by omega) (by simp) ?_; intro v4 w4 hown4 hg4 hnn4)
    have HO4 := Lib.hid (show OwN w v4 ([] ++ L) w4 from HI0.out.grown (M := L) (Below.refl _ _) hg4 hown4)
    clear hown4 hg4 hnn4
    go_wp2_with fail
    go_ret
    exact ⟨_, rfl, HO4.out⟩

theorem wp_region_tail {P : Program} {id : Nat} {Q : Exit → Act → World → Prop} {a : Act} {w : World} {l : List Oper} (n : Nat) (hm : P.follows .mixedOrders = true) (hB : Region.lexTailB .any l.toArray n = true)
    (h : wpStill P l.toArray w.drew (fun a' => wpList P l.toArray Q (l.drop n) a' w.drew) (l.take n) a) : (Code.region id l.toArray true).wp P Q a w := wp_region_still_tail n hm hB h

/-- what some names mean some versions on, and back -/
def fwdN (chs : List Ch) (v : Nat) : Nat → List Int → List Int
  | 0, l => l
  | k + 1, l => match chs[v + k]? with | some x => rep (fwdN chs v k l) x.fr x.to | none => fwdN chs v k l
def bwdN (chs : List Ch) (v : Nat) : Nat → List Int → List Int
  | 0, l => l
  | k + 1, l => match chs[v - (k + 1)]? with | some x => rep (bwdN chs v k l) x.to x.fr | none => bwdN chs v k l
def mns (chs : List Ch) (v : Nat) (l : List Int) (w : Nat) : List Int := if v ≤ w then fwdN chs v (w - v) l else bwdN chs v (v - w) l
theorem fwd_step {chs : List Ch} {v k : Nat} {l : List Int} {x : Ch} (h : chs[v + k]? = some x) : fwdN chs v (k + 1) l = rep (fwdN chs v k l) x.fr x.to := by
  conv => lhs; unfold fwdN
  rw [h]
theorem bwd_step {chs : List Ch} {v k : Nat} {l : List Int} {x : Ch} (h : chs[v - (k + 1)]? = some x) : bwdN chs v (k + 1) l = rep (bwdN chs v k l) x.to x.fr := by
  conv => lhs; unfold bwdN
  rw [h]
theorem rep_len (l fr to : List Int) : (rep l fr to).length ≤ l.length + to.length := by
  unfold rep
  have := wo_len l fr
  split
  · omega
  · rw [mg_len]; omega
set_option maxRecDepth 100000 in
set_option maxHeartbeats 8000000 in
theorem meanings_any (v vc u : Value) (b : Bk) (l : List Int) (n m : Nat) (w : World) (hv : HsV w v b vc) (hs : Sm b) (h64 : b.chs.length ≤ 64) (hn : n ≤ b.chs.length) (hm : m ≤ b.chs.length) (hu : InSl w w.heap.size u l) (hl : l.length ≤ 1000) :
    Calls Tryz.prog 47 #[v, .int .i64 n, u, .int .i64 m] w fun e w' => (∃ r, e = .returned r ∧ InSl w' w'.heap.size r (mns b.chs n l m)) ∧ Below w.heap.size w w' := by
  obtain ⟨vs, rfl, h1, h2⟩ := hv
  have HV := Lib.hid (And.intro h1 (And.intro h2 hs))
  obtain ⟨Av, cv, rfl⟩ := h1.form
  obtain ⟨A2, c2, rfl⟩ := h2.form
  have hb0 := below_new (w := w) (.cells #[.slice Av (vers b).length cv, .slice A2 b.chs.length c2] 55)
  have HC := Lib.hid (clone_any u l _ (hu.step hb0) (by omega))
  have HB0 := Lib.hid (And.intro hb0 (World.alloc_heap_new w (.cells #[.slice Av (vers b).length cv, .slice A2 b.chs.length c2] 55)))
  obtain ⟨A3, c3, rfl, _⟩ := hu.form
  obtain ⟨R, hR⟩ : ∃ R, mns b.chs n l m = R := ⟨_, rfl⟩
  rw [hR]
  have HR := Lib.hid hR
  clear h1 h2 hs hb0 hu hR
  generalize hmm : b.chs.length = len at *
  have HM := Lib.hid hmm
  clear hmm
  by_cases hnm : n ≤ m
  · go_enter Tryz.func47, Tryz.ntmps47
    go_wp2_with fail
    refine HC.out.mono ?_
    rintro e w1 ⟨r, rfl, hO⟩
    have HO := Lib.hid hO.sl
    have HB1 := Lib.hid (show Below w.heap.size w w1 ∧ w1.heap[w.heap.size]? = some (.cells #[.slice Av (vers b).length cv, .slice A2 len c2] 55) from ⟨HB0.out.1.trans (hO.bel.mono HB0.out.1.size), (hO.bel.block _ (Array.getElem?_eq_some_iff.1 HB0.out.2).1).trans HB0.out.2⟩)
    clear hO
    go_wp2_with fail
    go_loopw [1, 9] (fun iv o wr => ∃ (k : Nat) (o' : Value), iv = .int .i64 ((n + k : Nat) : Int) ∧ n + k ≤ m ∧ o = o' ∧ InSl wr wr.heap.size o' (fwdN b.chs n k l) ∧ (fwdN b.chs n k l).length ≤ 1000 + 1000 * k ∧ Below w.heap.size w wr ∧ wr.heap[w.heap.size]? = some (.cells #[.slice Av (vers b).length cv, .slice A2 len c2] 55)) (fun iv _ _ => m - (intOf iv).toNat)
    case atStart => exact ⟨0, r, rfl, by omega, rfl, HO.out, by unfold fwdN; omega, HB1.out.1, HB1.out.2⟩
    case round =>
      obtain ⟨k, o', rfl, hkm, rfl, ho, hol, hb, hbox⟩ := hrel
      have HO1 := Lib.hid ho
      have HBx := Lib.hid (And.intro hb hbox)
      clear ho hb hbox
      obtain ⟨A9, c9, rfl, _⟩ := HO1.out.form
      obtain ⟨i, hi⟩ : ∃ i, n + k = i := ⟨_, rfl⟩
      have HIk := Lib.hid hi
      rw [hi] at hkm ⊢
      clear hi
      generalize hO : fwdN b.chs n k l = O at *
      have HOq := Lib.hid hO
      clear hO
      have hk64 : k ≤ 64 := by have := HIk.out; omega
      by_cases hlt : i < m
      · have hlen : i < len := by omega
        obtain ⟨x, ad, vf, vt, hx, rfl, hbd, d0, d1, d2, hf, ht⟩ := (HV.out.2.1.step HBx.out.1).at_ hlen
        obtain ⟨Af, cf, rfl, _⟩ := hf.form
        obtain ⟨At, ct, rfl, _⟩ := ht.form
        have HSx := Lib.hid (HV.out.2.2.2.2 x (List.mem_of_getElem? hx))
        have HSt := Lib.hid (show fwdN b.chs n (k + 1) l = rep O x.fr x.to from by rw [fwd_step (x := x) (by rw [HIk.out]; exact hx), HOq.out])
        have HCall := Lib.hid (replace_any _ (.slice Af x.fr.length cf) (.slice At x.to.length ct) O x.fr x.to wr.drew (HO1.out.step (Below.refl _ _).drew) (hf.step (Below.refl _ _).drew) (ht.step (Below.refl _ _).drew) (by omega) (by have := HSx.out; omega) (by have := HSx.out; omega))
        obtain ⟨k0, k1⟩ := cells_two HBx.out.2
        have HLn := Lib.hid (rep_len O x.fr x.to)
        clear hx hf ht d0
        go_wp2_with fail
        refine wp_region_tail 13 (by kernel_rfl) (by kernel_rfl) ?_
        simp only [List.take_succ_cons, List.take_zero, List.drop_succ_cons, List.drop_zero]
        repeat still_step
        refine wpStill_nil ?_
        go_wp2_with fail
        refine HCall.out.mono ?_
        rintro e w2 ⟨⟨r2, rfl, hr2, _⟩, hb2⟩
        have HN := Lib.hid (show InSl w2 w2.heap.size r2 (rep O x.fr x.to) ∧ Below w.heap.size w w2 ∧ w2.heap[w.heap.size]? = some (.cells #[.slice Av (vers b).length cv, .slice (some ad) len c2] 55) from
          ⟨hr2, HBx.out.1.trans (((Below.refl _ _).drew.trans hb2).mono HBx.out.1.size), (((Below.refl wr.heap.size wr).drew.trans hb2).block _ (Array.getElem?_eq_some_iff.1 HBx.out.2).1).trans HBx.out.2⟩)
        clear hr2 hb2 d1 d2 k0 k1
        go_wp2_with fail
        go_roundw
        case rel => exact ⟨k + 1, r2, by have := HIk.out; rw [show n + (k + 1) = i + 1 from by omega]; go_num, by have := HIk.out; omega, rfl, by rw [HSt.out]; exact HN.out.1, by rw [HSt.out]; have := HLn.out; have := HSx.out; omega, HN.out.2.1, HN.out.2.2⟩
        case measure => simp [intOf]; omega
      · obtain rfl : i = m := by omega
        have HF := Lib.hid (show O = R from by
          rw [← HOq.out, ← HR.out]; unfold mns
          rw [if_pos hnm, show i - n = k from by have := HIk.out; omega])
        have hng : ¬ ((i : Int) < (i : Int)) := by omega
        go_wp2_with fail
        go_loopw [1, 9] (fun iv o wq => iv = .int .i64 (i : Int) ∧ o = .slice A9 O.length c9 ∧ wq = wr) (fun _ _ _ => 0)
        case atStart => exact ⟨rfl, rfl, rfl⟩
        case round =>
          obtain ⟨rfl, rfl, rfl⟩ := hrel
          go_wp2_with fail
          go_ret
          exact ⟨⟨_, rfl, by rw [← HF.out]; exact HO1.out⟩, HBx.out.1⟩
  · have hng : ¬ ((n : Int) < (m : Int)) := by omega
    have hdn : decide (n < m) = false := decide_eq_false (by omega)
    go_enter Tryz.func47, Tryz.ntmps47
    go_wp2_with fail
    refine HC.out.mono ?_
    rintro e w1 ⟨r, rfl, hO⟩
    have HO := Lib.hid hO.sl
    obtain ⟨A8, c8, rfl, _⟩ := hO.sl.form
    have HB1 := Lib.hid (show Below w.heap.size w w1 ∧ w1.heap[w.heap.size]? = some (.cells #[.slice Av (vers b).length cv, .slice A2 len c2] 55) from ⟨HB0.out.1.trans (hO.bel.mono HB0.out.1.size), (hO.bel.block _ (Array.getElem?_eq_some_iff.1 HB0.out.2).1).trans HB0.out.2⟩)
    clear hO
    go_wp2_with fail
    go_loopw [1, 9] (fun iv o wq => iv = .int .i64 (n : Int) ∧ o = .slice A8 l.length c8 ∧ wq = w1) (fun _ _ _ => 0)
    case atStart => exact ⟨rfl, rfl, rfl⟩
    case round =>
      obtain ⟨rfl, rfl, rfl⟩ := hrel
      go_wp2_with fail
      go_loopw [1, 9] (fun iv o wr => ∃ (k i : Nat) (o' : Value), iv = .int .i64 (i : Int) ∧ i + k = n ∧ m ≤ i ∧ o = o' ∧ InSl wr wr.heap.size o' (bwdN b.chs n k l) ∧ (bwdN b.chs n k l).length ≤ 1000 + 1000 * k ∧ Below w.heap.size w wr ∧ wr.heap[w.heap.size]? = some (.cells #[.slice Av (vers b).length cv, .slice A2 len c2] 55)) (fun iv _ _ => (intOf iv).toNat - m)
      case atStart => exact ⟨0, n, _, rfl, by omega, by omega, rfl, HO.out, by unfold bwdN; omega, HB1.out.1, HB1.out.2⟩
      case round =>
        rename_i wr
        obtain ⟨k, i0, o', rfl, hik, hmi, rfl, ho, hol, hb, hbox⟩ := hrel
        have HO1 := Lib.hid ho
        have HBx := Lib.hid (And.intro hb hbox)
        clear ho hb hbox
        obtain ⟨A9, c9, rfl, _⟩ := HO1.out.form
        generalize hO : bwdN b.chs n k l = O at *
        have HOq := Lib.hid hO
        clear hO
        have hk64 : k ≤ 64 := by omega
        by_cases hlt : m < i0
        · obtain ⟨i, hi⟩ : ∃ i, i0 = i + 1 := ⟨i0 - 1, by omega⟩
          have HIk := Lib.hid (show n - (k + 1) = i from by omega)
          subst hi
          have hkw : IntKind.i64.wrap (((i : Int) + 1) - 1) = (i : Int) := by rw [IntWalk.i64_in _ (by omega)]; omega
          have hkw2 : IntKind.i64.wrap (i : Int) = (i : Int) := by rw [IntWalk.i64_in _ (by omega)]
          have hil : (i : Int) < 1000 := by omega
          have hlen : i < len := by omega
          obtain ⟨x, ad, vf, vt, hx, rfl, hbd, d0, d1, d2, hf, ht⟩ := (HV.out.2.1.step HBx.out.1).at_ hlen
          obtain ⟨Af, cf, rfl, _⟩ := hf.form
          obtain ⟨At, ct, rfl, _⟩ := ht.form
          have HSx := Lib.hid (HV.out.2.2.2.2 x (List.mem_of_getElem? hx))
          have HSt := Lib.hid (show bwdN b.chs n (k + 1) l = rep O x.to x.fr from by rw [bwd_step (x := x) (by rw [HIk.out]; exact hx), HOq.out])
          have HCall := Lib.hid (replace_any _ (.slice At x.to.length ct) (.slice Af x.fr.length cf) O x.to x.fr wr.drew (HO1.out.step (Below.refl _ _).drew) (ht.step (Below.refl _ _).drew) (hf.step (Below.refl _ _).drew) (by omega) (by have := HSx.out; omega) (by have := HSx.out; omega))
          obtain ⟨k0, k1⟩ := cells_two HBx.out.2
          have HLn := Lib.hid (rep_len O x.to x.fr)
          clear hx hf ht d0
          go_wp2_with fail
          refine wp_region_tail 15 (by kernel_rfl) (by kernel_rfl) ?_
          simp only [List.take_succ_cons, List.take_zero, List.drop_succ_cons, List.drop_zero]
          repeat still_step
          refine wpStill_nil ?_
          go_wp2_with fail
          refine HCall.out.mono ?_
          rintro e w2 ⟨⟨r2, rfl, hr2, _⟩, hb2⟩
          have HN := Lib.hid (show InSl w2 w2.heap.size r2 (rep O x.to x.fr) ∧ Below w.heap.size w w2 ∧ w2.heap[w.heap.size]? = some (.cells #[.slice Av (vers b).length cv, .slice (some ad) len c2] 55) from
            ⟨hr2, HBx.out.1.trans (((Below.refl _ _).drew.trans hb2).mono HBx.out.1.size), (((Below.refl wr.heap.size wr).drew.trans hb2).block _ (Array.getElem?_eq_some_iff.1 HBx.out.2).1).trans HBx.out.2⟩)
          clear hr2 hb2 d1 d2 k0 k1
          go_wp2_with fail
          go_roundw
          case rel => exact ⟨k + 1, i, r2, by go_num, by omega, by omega, rfl, by rw [HSt.out]; exact HN.out.1, by rw [HSt.out]; have := HLn.out; have := HSx.out; omega, HN.out.2.1, HN.out.2.2⟩
          case measure => simp [intOf]; omega
        · obtain rfl : i0 = m := by omega
          have HF := Lib.hid (show O = R from by
            rw [← HOq.out, ← HR.out]; unfold mns
            rw [if_neg hnm, show n - i0 = k from by omega])
          go_wp2_with fail
          go_ret
          exact ⟨⟨_, rfl, by rw [← HF.out]; exact HO1.out⟩, HBx.out.1⟩
end Go.Proofs.YtplpogonkfnafaaGreat
namespace Go.Proofs.YtplpogonkfnafaaGreat
open Go.RowKit Go.Nm

theorem one_sl (w : World) (x : Int) : InSl (w.alloc (.cells #[.int .i64 x] 3)) (w.alloc (.cells #[.int .i64 x] 3)).heap.size (.slice (some ⟨w.heap.size, 0, none⟩) 1 1) [x] :=
  ⟨some ⟨w.heap.size, 0, none⟩, 1, rfl, Nat.le_refl _, by unfold maxLen; omega, fun i y hy => by
    have hi : i = 0 := by have := (List.getElem?_eq_some_iff.1 hy).1; simp at this; omega
    subst hi
    simp at hy; subst hy
    exact ⟨_, rfl, by simp, cell_one_new w (.int .i64 x) 3 0 _ rfl⟩⟩
theorem one_own (W w : World) (x : Int) (h : W.heap.size ≤ w.heap.size) : (w.alloc (.cells #[.int .i64 x] 3)).ownsRow W.heap.size 3 1 (.slice (some ⟨w.heap.size, 0, none⟩) 1 1) 1 (intsV [x]) :=
  World.ownsRow_lit (size := 1) w #[.int .i64 x] 1 h (by unfold maxLen; omega) rfl
set_option maxRecDepth 100000 in
set_option maxHeartbeats 4000000 in
theorem meaning_any (v vc : Value) (b : Bk) (x : Int) (n m : Nat) (w : World) (hv : HsV w v b vc) (hs : Sm b) (h64 : b.chs.length ≤ 64) (hn : n ≤ b.chs.length) (hm : m ≤ b.chs.length) :
    Calls Tryz.prog 23 #[v, .int .i64 n, .int .i64 x, .int .i64 m] w fun e w' => (∃ r, e = .returned r ∧ InSl w' w'.heap.size r (mns b.chs n [x] m)) ∧ Below w.heap.size w w' := by
  have hv0 := hv
  obtain ⟨vs, rfl, h1, h2⟩ := hv
  obtain ⟨Av, cv, rfl⟩ := h1.form
  obtain ⟨A2, c2, rfl⟩ := h2.form
  have hb0 := below_new (w := w) (.cells #[.slice Av (vers b).length cv, .slice A2 b.chs.length c2] 55)
  have hb1 := below_new (w := w.alloc (.cells #[.slice Av (vers b).length cv, .slice A2 b.chs.length c2] 55)) (.cells #[.int .i64 x] 3)
  have HC := Lib.hid (meanings_any _ _ _ b [x] n m _ ((hv0.step hb0).step hb1) hs h64 hn hm (one_sl _ x) (by simp))
  have HB := Lib.hid (hb0.trans (hb1.mono hb0.size))
  clear hv0 h1 h2 hb0 hb1
  generalize mns b.chs n [x] m = R at *
  rw [World.size_alloc] at HC
  go_enter Tryz.func23, Tryz.ntmps23
  go_wp2_with fail
  (with_reducible refine HC.out.mono ?_)
  rintro e w1 ⟨⟨r, rfl, hr⟩, hb⟩
  have HR := Lib.hid (And.intro hr (HB.out.trans (hb.mono HB.out.size)))
  obtain ⟨A3, c3, rfl, _⟩ := hr.form
  clear hr hb
  go_wp2_with fail
  go_ret
  exact ⟨⟨_, rfl, HR.out.1⟩, HR.out.2⟩

/-- a list and an errno -/
def OutN (R : List Int) (er : Int) (w : World) (e : Ending) (w' : World) : Prop := (∃ u, e = .returned (.tuple #[u, .int .i64 er]) ∧ InSl w' w'.heap.size u R) ∧ Below w.heap.size w w'
theorem OutN.nil {er : Int} {w w' : World} (hb : Below w.heap.size w w') : OutN [] er w (.returned (.tuple #[.slice none 0 0, .int .i64 er])) w' := ⟨⟨_, rfl, InSl.nil _ _⟩, hb⟩
theorem OutN.mk {R : List Int} {er : Int} {w w' : World} {u : Value} (hs : InSl w' w'.heap.size u R) (hb : Below w.heap.size w w') : OutN R er w (.returned (.tuple #[u, .int .i64 er])) w' := ⟨⟨u, rfl, hs⟩, hb⟩
def meansOut (b : Bk) (n x m : Int) : List Int × Int := if openAtE b [m] n x = 0 then (mns b.chs n.toNat [x] m.toNat, 0) else ([], openAtE b [m] n x)
theorem openE_val {b : Bk} {V : List Int} (h : openE b V = 0) : Val b ∧ ∀ v ∈ V, 0 ≤ v ∧ v < (vers b).length := by
  unfold openE at h
  split at h
  · rename_i hv
    split at h
    · rename_i h2; exact ⟨hv, h2⟩
    · cases h
  · cases h
theorem openAtE_zero {b : Bk} {V : List Int} {n x : Int} (h : openAtE b V n x = 0) : Val b ∧ (∀ v ∈ V ++ [n], 0 ≤ v ∧ v ≤ b.chs.length) ∧ x ∈ (vers b).getD n.toNat [] := by
  unfold openAtE at h
  split at h
  · rename_i h0
    obtain ⟨h1, h2⟩ := openE_val h0
    have := val_len h1
    split at h
    · rename_i h3
      exact ⟨h1, fun v hv => by have := h2 v hv; omega, h3⟩
    · cases h
  · rename_i h0; exact absurd h h0
end Go.Proofs.YtplpogonkfnafaaGreat
namespace Go.Proofs.YtplpogonkfnafaaGreat
open Go.RowKit Go.Nm

set_option maxRecDepth 100000 in
set_option maxHeartbeats 4000000 in
theorem Means_any (v vc : Value) (b : Bk) (n x m : Int) (w : World) (hv : BkV w v b vc) (hs : Sm b) :
    Calls Tryz.prog 17 #[v, .int .i64 n, .int .i64 x, .int .i64 m] w (OutN (meansOut b n x m).1 (meansOut b n x m).2 w) := by
  have hv0 := hv
  obtain ⟨v1, rfl, h1, h2⟩ := hv
  obtain ⟨A1, c1, rfl, _⟩ := h1.form
  obtain ⟨A2, c2, rfl⟩ := h2.form
  have hb0 := below_new (w := w) (.cells #[.slice A1 b.first.length c1, .slice A2 b.chs.length c2] 25)
  have hb1 := below_new (w := w.alloc (.cells #[.slice A1 b.first.length c1, .slice A2 b.chs.length c2] 25)) (.cells #[.int .i64 m] 3)
  have HO := Lib.hid (openAt_any w _ _ _ (.slice (some ⟨(w.alloc (.cells #[.slice A1 b.first.length c1, .slice A2 b.chs.length c2] 25)).heap.size, 0, none⟩) 1 1) n x [m] b hv0 hs (hb0.trans (hb1.mono hb0.size)) (one_own w _ m hb0.size) (by simp))
  have HM := Lib.hid (show meansOut b n x m = if openAtE b [m] n x = 0 then (mns b.chs n.toNat [x] m.toNat, 0) else ([], openAtE b [m] n x) from rfl)
  have HZ := Lib.hid (openAtE_zero (b := b) (V := [m]) (n := n) (x := x))
  have HS := Lib.hid hs
  clear hv0 h1 h2 hb0 hb1 hs
  generalize meansOut b n x m = o at *
  generalize openAtE b [m] n x = er at *
  simp only [World.size_alloc] at HO
  go_enter Tryz.func17, Tryz.ntmps17
  go_wp2_with fail
  (with_reducible refine HO.out.mono ?_)
  rintro e w1 ⟨u, rfl, hu0, hu1, hb⟩
  have HB := Lib.hid hb
  clear hb
  by_cases he : er = 0
  · subst he
    obtain ⟨hval, hV, hx⟩ := HZ.out rfl
    obtain ⟨n0, n1⟩ := hV n (by simp)
    obtain ⟨m0, m1⟩ := hV m (by simp)
    obtain ⟨n', rfl⟩ : ∃ k : Nat, n = (k : Int) := ⟨n.toNat, by omega⟩
    obtain ⟨m', rfl⟩ : ∃ k : Nat, m = (k : Int) := ⟨m.toNat, by omega⟩
    rw [if_pos rfl] at HM
    obtain rfl := HM.out
    have hH := hu0 rfl
    obtain ⟨Av, cv, rfl⟩ := hH.form
    have HH := Lib.hid hH
    have hb2 := below_new (w := w1) (.cells #[.slice Av (vers b).length cv, .slice A2 b.chs.length c2] 55)
    have HC := Lib.hid (meaning_any _ _ b x n' m' _ (hH.step hb2) HS.out hval.1 (by omega) (by omega))
    have HB2 := Lib.hid (HB.out.trans (hb2.mono HB.out.size))
    clear hH hb2 hu0 hu1 hV hx hval n0 n1 m0 m1 HZ
    simp only [Int.toNat_natCast] at *
    generalize mns b.chs n' [x] m' = R at *
    go_wp2_with fail
    (with_reducible refine HC.out.mono ?_)
    rintro e w2 ⟨⟨r, rfl, hr⟩, hb⟩
    have HR := Lib.hid (And.intro hr (HB2.out.trans (hb.mono HB2.out.size)))
    obtain ⟨A3, c3, rfl, _⟩ := hr.form
    clear hr hb
    go_wp2_with fail
    go_ret2
    exact OutN.mk HR.out.1 HR.out.2
  · rw [if_neg he] at HM
    obtain rfl := HM.out
    obtain rfl := hu1 he
    have HB2 := Lib.hid (HB.out.trans ((below_new (w := w1) (.cells #[.slice none 0 0, .slice none 0 0] 55)).mono HB.out.size))
    unfold nilH at *
    clear hu0 hu1 HZ
    go_wp2_with fail
    go_ret2
    exact OutN.nil HB2.out
end Go.Proofs.YtplpogonkfnafaaGreat
namespace Go.Proofs.YtplpogonkfnafaaGreat
open Go.RowKit Go.Nm

theorem versF_head (l : List Ch) (a : List Int) (y : Int) : (versF a y l)[0]? = some a := by
  cases l with
  | nil => rfl
  | cons x l => unfold versF; split <;> rfl
theorem versF_step : ∀ (l : List Ch) (a : List Int) (y : Int), l.length < (versF a y l).length → ∀ k x, l[k]? = some x → ∃ A y', (versF a y l)[k]? = some A ∧ okCh A y' x ∧ (versF a y l)[k + 1]? = some (rep A x.fr x.to)
  | [], a, y, _, k, x, h => by simp at h
  | x0 :: l, a, y, hlen, k, x, h => by
    unfold versF at hlen ⊢
    split at hlen
    · rename_i hok
      rw [if_pos hok]
      cases k with
      | zero =>
        simp at h; subst h
        exact ⟨a, y, rfl, hok, by simpa using versF_head l (rep a x0.fr x0.to) x0.yr⟩
      | succ k =>
        obtain ⟨A, y', h1, h2, h3⟩ := versF_step l (rep a x0.fr x0.to) x0.yr (by simpa using hlen) k x (by simpa using h)
        exact ⟨A, y', by simpa using h1, h2, by simpa using h3⟩
    · simp at hlen
theorem vers_step {b : Bk} (hb : Val b) {k : Nat} {x : Ch} (h : b.chs[k]? = some x) : ∃ A y, (vers b)[k]? = some A ∧ okCh A y x ∧ (vers b)[k + 1]? = some (rep A x.fr x.to) := by
  have hv := hb.2
  unfold vers at hv ⊢
  split at hv
  · rename_i h0
    rw [if_pos h0]
    exact versF_step _ _ _ hv k x h
  · simp at hv
theorem vers_at {b : Bk} (hb : Val b) {k : Nat} (h : k ≤ b.chs.length) : ∃ A, (vers b)[k]? = some A ∧ Inc A ∧ A.length ≤ 400 := by
  have hl := val_len hb
  have hk : k < (vers b).length := by omega
  refine ⟨_, List.getElem?_eq_getElem hk, vers_ok _ (List.getElem_mem hk)⟩
/-- a step's facts -/
structure StepD (A B : List Int) (x : Ch) : Prop where
  ia : Inc A
  ib : Inc B
  ifr : Inc x.fr
  ito : Inc x.to
  eq : B = rep A x.fr x.to
  frA : ∀ z ∈ x.fr, z ∈ A
  toA : ∀ z ∈ x.to, z ∈ A → z ∈ x.fr
  frN : x.fr ≠ []
  toN : x.to ≠ []
theorem step_data {b : Bk} (hb : Val b) {k : Nat} {x : Ch} (h : b.chs[k]? = some x) : ∃ A B, (vers b)[k]? = some A ∧ (vers b)[k + 1]? = some B ∧ StepD A B x := by
  obtain ⟨A, y, h1, h2, h3⟩ := vers_step hb h
  have hA := vers_ok A (List.mem_of_getElem? h1)
  have hB := vers_ok _ (List.mem_of_getElem? h3)
  refine ⟨A, _, h1, h3, hA.1, hB.1, h2.2.2.1.2.2.1, h2.2.2.2.1.2.2.1, rfl, fun z hz => Classical.byContradiction fun hn => ?_, fun z hz hzA => Classical.byContradiction fun hn => ?_, fun e => by have := h2.2.2.1.1; rw [e] at this; simp at this, fun e => by have := h2.2.2.2.1.1; rw [e] at this; simp at this⟩
  · have : z ∈ wo x.fr A := (mem_wo h2.2.2.1.2.2.1 hA.1 z).2 ⟨hz, hn⟩
    rw [h2.2.2.2.2.1] at this; simp at this
  · exact h2.2.2.2.2.2.1 z ((mem_wo h2.2.2.2.1.2.2.1 h2.2.2.1.2.2.1 z).2 ⟨hz, hn⟩) hzA
theorem StepD.memB {A B : List Int} {x : Ch} (h : StepD A B x) {z : Int} : z ∈ B ↔ (z ∈ A ∧ z ∉ x.fr) ∨ z ∈ x.to := by
  rw [h.eq, mem_rep h.ia h.ifr]
  constructor
  · rintro (h1 | h1)
    · exact .inl h1
    · exact .inr h1.1
  · rintro (h1 | h1)
    · exact .inl h1
    · obtain ⟨y, hy⟩ := List.exists_mem_of_ne_nil _ h.frN
      exact .inr ⟨h1, y, h.frA y hy, hy⟩
theorem StepD.fwd {A B : List Int} {x : Ch} (h : StepD A B x) {l : List Int} (hl : Inc l) (hs : ∀ z ∈ l, z ∈ A) : Inc (rep l x.fr x.to) ∧ ∀ z ∈ rep l x.fr x.to, z ∈ B := by
  refine ⟨rep_inc hl h.ifr h.ito fun z hz hzl => h.toA z hz (hs z hzl), fun z hz => h.memB.2 ?_⟩
  rcases (mem_rep hl h.ifr).1 hz with h1 | h1
  · exact .inl ⟨hs z h1.1, h1.2⟩
  · exact .inr h1.1
theorem StepD.bwd {A B : List Int} {x : Ch} (h : StepD A B x) {l : List Int} (hl : Inc l) (hs : ∀ z ∈ l, z ∈ B) : Inc (rep l x.to x.fr) ∧ ∀ z ∈ rep l x.to x.fr, z ∈ A := by
  refine ⟨rep_inc hl h.ito h.ifr fun z hz hzl => ?_, fun z hz => ?_⟩
  · rcases h.memB.1 (hs z hzl) with h1 | h1
    · exact absurd hz h1.2
    · exact h1
  · rcases (mem_rep hl h.ito).1 hz with h1 | h1
    · rcases h.memB.1 (hs z h1.1) with h2 | h2
      · exact h2.1
      · exact absurd h2 h1.2
    · exact h.frA z h1.1
theorem fwdN_ok {b : Bk} (hb : Val b) {v : Nat} {l A : List Int} (hA : (vers b)[v]? = some A) (hl : Inc l) (hs : ∀ z ∈ l, z ∈ A) : ∀ k, v + k ≤ b.chs.length → ∃ B, (vers b)[v + k]? = some B ∧ Inc (fwdN b.chs v k l) ∧ ∀ z ∈ fwdN b.chs v k l, z ∈ B
  | 0, _ => ⟨A, hA, hl, hs⟩
  | k + 1, h => by
    obtain ⟨B, h1, h2, h3⟩ := fwdN_ok hb hA hl hs k (by omega)
    have hx : b.chs[v + k]? = some b.chs[v + k] := List.getElem?_eq_getElem (by omega)
    obtain ⟨A', B', g1, g2, g3⟩ := step_data hb hx
    rw [h1] at g1; injection g1 with g1; subst g1
    rw [fwd_step hx]
    exact ⟨B', g2, (g3.fwd h2 h3).1, (g3.fwd h2 h3).2⟩
theorem bwdN_ok {b : Bk} (hb : Val b) {v : Nat} {l A : List Int} (hA : (vers b)[v]? = some A) (hl : Inc l) (hs : ∀ z ∈ l, z ∈ A) (hv : v ≤ b.chs.length) : ∀ k, k ≤ v → ∃ B, (vers b)[v - k]? = some B ∧ Inc (bwdN b.chs v k l) ∧ ∀ z ∈ bwdN b.chs v k l, z ∈ B
  | 0, _ => ⟨A, hA, hl, hs⟩
  | k + 1, h => by
    obtain ⟨B, h1, h2, h3⟩ := bwdN_ok hb hA hl hs hv k (by omega)
    have hx : b.chs[v - (k + 1)]? = some b.chs[v - (k + 1)] := List.getElem?_eq_getElem (by omega)
    obtain ⟨A', B', g1, g2, g3⟩ := step_data hb hx
    rw [show v - (k + 1) + 1 = v - k by omega, h1] at g2; injection g2 with g2; subst g2
    rw [bwd_step hx]
    exact ⟨A', g1, (g3.bwd h2 h3).1, (g3.bwd h2 h3).2⟩
/-- what names mean is names of the other version, in order -/
theorem mns_ok {b : Bk} (hb : Val b) {v w : Nat} {l A : List Int} (hA : (vers b)[v]? = some A) (hl : Inc l) (hs : ∀ z ∈ l, z ∈ A) (hv : v ≤ b.chs.length) (hw : w ≤ b.chs.length) : ∃ B, (vers b)[w]? = some B ∧ Inc (mns b.chs v l w) ∧ ∀ z ∈ mns b.chs v l w, z ∈ B := by
  unfold mns
  split
  · obtain ⟨B, h1, h2⟩ := fwdN_ok hb hA hl hs (w - v) (by omega)
    rw [show v + (w - v) = w by omega] at h1
    exact ⟨B, h1, h2⟩
  · obtain ⟨B, h1, h2⟩ := bwdN_ok hb hA hl hs hv (v - w) (by omega)
    rw [show v - (v - w) = w by omega] at h1
    exact ⟨B, h1, h2⟩
theorem inc_sub_len : ∀ {l B : List Int}, Inc l → (∀ z ∈ l, z ∈ B) → l.length ≤ B.length
  | [], _, _, _ => Nat.zero_le _
  | x :: l, B, h, hs => by
    have hx := hs x List.mem_cons_self
    have ih := inc_sub_len (l := l) (B := B.erase x) h.tail fun z hz => (List.mem_erase_of_ne (by have := h.head z hz; omega)).2 (hs z (List.mem_cons_of_mem _ hz))
    rw [List.length_erase_of_mem hx] at ih
    have := List.length_pos_of_mem hx
    simp only [List.length_cons]; omega
end Go.Proofs.YtplpogonkfnafaaGreat
namespace Go.Proofs.YtplpogonkfnafaaGreat
open Go.RowKit Go.Nm

def namesOut (b : Bk) (n : Int) : List Int × Int := if openE b [n] = 0 then ((vers b).getD n.toNat [], 0) else ([], openE b [n])
set_option maxRecDepth 100000 in
set_option maxHeartbeats 4000000 in
theorem Names_any (v vc : Value) (b : Bk) (n : Int) (w : World) (hv : BkV w v b vc) (hs : Sm b) :
    Calls Tryz.prog 15 #[v, .int .i64 n] w (OutN (namesOut b n).1 (namesOut b n).2 w) := by
  have hv0 := hv
  obtain ⟨v1, rfl, h1, h2⟩ := hv
  obtain ⟨A1, c1, rfl, _⟩ := h1.form
  obtain ⟨A2, c2, rfl⟩ := h2.form
  have hb0 := below_new (w := w) (.cells #[.slice A1 b.first.length c1, .slice A2 b.chs.length c2] 25)
  have hb1 := below_new (w := w.alloc (.cells #[.slice A1 b.first.length c1, .slice A2 b.chs.length c2] 25)) (.cells #[.int .i64 n] 3)
  have HO := Lib.hid (open_any _ _ _ b [n] _ ((hv0.step hb0).step hb1) hs (one_sl _ n) (by simp))
  have HB0 := Lib.hid (hb0.trans (hb1.mono hb0.size))
  have HM := Lib.hid (show namesOut b n = if openE b [n] = 0 then ((vers b).getD n.toNat [], 0) else ([], openE b [n]) from rfl)
  have HZ := Lib.hid (openE_val (b := b) (V := [n]))
  clear hv0 h1 h2 hb0 hb1 hs
  generalize namesOut b n = o at *
  obtain ⟨oR, oE⟩ := o
  dsimp only
  generalize openE b [n] = er at *
  rw [World.size_alloc] at HO
  go_enter Tryz.func15, Tryz.ntmps15
  go_wp2_with fail
  (with_reducible refine HO.out.mono ?_)
  rintro e w1 ⟨u, rfl, hu0, hu1, hb⟩
  have HB := Lib.hid (HB0.out.trans (hb.mono HB0.out.size))
  clear hb
  by_cases he : er = 0
  · subst he
    obtain ⟨hval, hV⟩ := HZ.out rfl
    obtain ⟨n0, n1⟩ := hV n (by simp)
    obtain ⟨k, rfl⟩ : ∃ k : Nat, n = (k : Int) := ⟨n.toNat, by omega⟩
    rw [if_pos rfl] at HM
    have hM := HM.out
    injection hM with hM1 hM2
    subst hM2
    have hH := hu0 rfl
    obtain ⟨vs, rfl, hvs, hvc⟩ := hH
    obtain ⟨Av, cv, rfl⟩ := hvs.form
    have hkl : k < (vers b).length := by omega
    have hb2 := below_new (w := w1) (.cells #[.slice Av (vers b).length cv, .slice A2 b.chs.length c2] 55)
    obtain ⟨ad, uk, L, rfl, hadb, hL, hck, hinL⟩ := ((hvs.below hb2).mono hb2.size).at_ hkl
    obtain ⟨hLi, hLl⟩ := vers_ok L (List.mem_of_getElem? hL)
    have HC := Lib.hid (cloneV_any uk L _ hinL (by omega))
    obtain ⟨Ak, ck, rfl, _⟩ := hinL.form
    have HB2 := Lib.hid (HB.out.trans (hb2.mono HB.out.size))
    have hR : oR = L := by rw [hM1, Int.toNat_natCast, List.getD_eq_getElem?_getD, hL]; rfl
    subst hR
    clear hvs hvc hb2 hu0 hu1 hV hval n0 n1 HZ hinL hLi hL hadb
    clear hM1 HM
    generalize hvl : (vers b).length = vl at *
    clear hvl
    go_wp2_with fail
    (with_reducible refine HC.out.mono ?_)
    rintro e w2 ⟨r, rfl, hO⟩
    have HR2 := Lib.hid (And.intro hO.sl (HB2.out.trans (hO.bel.mono HB2.out.size)))
    obtain ⟨A3, c3, rfl, _⟩ := hO.sl.form
    clear hO
    go_wp2_with fail
    go_ret2
    exact OutN.mk HR2.out.1 HR2.out.2
  · rw [if_neg he] at HM
    have hM := HM.out
    injection hM with hM1 hM2
    subst hM1; subst hM2
    clear HM
    obtain rfl := hu1 he
    have HB2 := Lib.hid (HB.out.trans ((below_new (w := w1) (.cells #[.slice none 0 0, .slice none 0 0] 55)).mono HB.out.size))
    unfold nilH at *
    clear hu0 hu1 HZ
    go_wp2_with fail
    go_ret2
    exact OutN.nil HB2.out

set_option maxRecDepth 100000 in
set_option maxHeartbeats 4000000 in
theorem indexHas_any (u vm : Value) (L M : List Int) (w : World) (hu : InSl w w.heap.size u L) (hm : InSl w w.heap.size vm M) (hi : Inc M) (hn : L.length ≤ 1000000) (hmn : M.length ≤ 1000000) :
    Calls Tryz.prog 82 #[u, .func (.func 42) #[vm] #[]] w fun e w' => (∃ k : Int, e = .returned (.int .i64 k) ∧ decide (0 ≤ k) = L.any fun x => decide (x ∈ M)) ∧ w = w' := by
  have HH := Lib.hid (fun x => has_any vm M x w hm hi hmn)
  obtain ⟨A, c, rfl, hc, hcm, hA⟩ := hu
  obtain ⟨A2, c2, rfl, _⟩ := hm.form
  have HA := Lib.hid hA
  clear hA hm hi hc hcm
  generalize hnl : L.length = n at *
  have HL := Lib.hid hnl
  clear hnl
  go_enter Tryz.func82, Tryz.ntmps82
  go_wp2_with fail
  go_loop [8] (fun k => ∃ i : Nat, k = .int .i64 (i : Int) ∧ i ≤ n ∧ (L.take i).any (fun x => decide (x ∈ M)) = false) (fun k => n - (intOf k).toNat)
  case atStart => exact ⟨0, rfl, by omega, rfl⟩
  case round =>
    obtain ⟨i, rfl, hin, hno⟩ := hrel
    have HN := Lib.hid hno
    clear hno
    by_cases hlt : i < n
    · obtain ⟨x, ad, hx, rfl, hb, hcx⟩ := HA.out.at_ HL.out hlt
      have HHx := Lib.hid (HH.out x)
      have HX := Lib.hid hx
      have HT := Lib.hid (show (L.take (i + 1)).any (fun x => decide (x ∈ M)) = decide (x ∈ M) from by
        obtain ⟨hi2, rfl⟩ := List.getElem?_eq_some_iff.1 hx
        rw [List.take_succ_eq_append_getElem hi2, List.any_append, HN.out]; simp)
      clear hx hb
      by_cases hxm : x ∈ M
      · rw [decide_eq_true hxm] at HHx HT
        have HF := Lib.hid (show (L.any fun x => decide (x ∈ M)) = true from List.any_eq_true.2 ⟨x, List.mem_of_getElem? HX.out, decide_eq_true hxm⟩)
        clear hxm
        go_wp2_with fail
        refine HHx.out.mono ?_
        rintro e w1 ⟨rfl, rfl⟩
        go_wp2_with fail
        go_ret
        exact ⟨⟨_, rfl, by rw [HF.out]; simp⟩, rfl⟩
      · rw [decide_eq_false hxm] at HHx HT
        clear hxm
        go_wp2_with fail
        refine HHx.out.mono ?_
        rintro e w1 ⟨rfl, rfl⟩
        go_wp2_with fail
        go_round
        case rel => exact ⟨i + 1, by go_num, by omega, HT.out⟩
        case measure => simp [intOf]; omega
    · have HF := Lib.hid (show (L.any fun x => decide (x ∈ M)) = false from by
        have := HN.out
        rwa [List.take_of_length_le (by rw [HL.out]; omega)] at this)
      go_wp2_with fail
      go_ret
      exact ⟨⟨_, rfl, by rw [HF.out]; rfl⟩, rfl⟩
set_option maxHeartbeats 2000000 in
theorem hasSome_any (vm u : Value) (M L : List Int) (w : World) (hm : InSl w w.heap.size vm M) (hu : InSl w w.heap.size u L) (hi : Inc M) (hn : L.length ≤ 1000000) (hmn : M.length ≤ 1000000) :
    Calls Tryz.prog 44 #[vm, u] w fun e w' => e = .returned (.bool (L.any fun x => decide (x ∈ M))) ∧ w = w' := by
  have HI := Lib.hid (indexHas_any u vm L M w hu hm hi hn hmn)
  obtain ⟨A, c, rfl, _⟩ := hu.form
  obtain ⟨A2, c2, rfl, _⟩ := hm.form
  clear hu hm hi
  generalize (L.any fun x => decide (x ∈ M)) = r at *
  have HC : Calls Tryz.prog 70 #[.slice A L.length c, .func (.func 42) #[.slice A2 M.length c2] #[]] w fun e w' => e = .returned (.bool r) ∧ w = w' := by
    go_enter Tryz.func70, Tryz.ntmps70
    go_wp2_with fail
    refine HI.out.mono ?_
    rintro e w1 ⟨⟨k, rfl, hk⟩, rfl⟩
    have HK := Lib.hid hk
    clear hk
    go_wp2_with fail
    go_ret
    exact ⟨ret_b HK.out, rfl⟩
  have HC2 := Lib.hid HC
  clear HC HI
  go_enter Tryz.func44, Tryz.ntmps44
  go_wp2_with fail
  refine HC2.out.mono ?_
  rintro e w1 ⟨rfl, rfl⟩
  go_wp2_with fail
  go_ret
  exact ⟨rfl, rfl⟩
end Go.Proofs.YtplpogonkfnafaaGreat
