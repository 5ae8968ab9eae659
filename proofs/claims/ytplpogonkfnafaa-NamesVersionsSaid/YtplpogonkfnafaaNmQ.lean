/- slices.Clone; meanings, meaning. -/
import Derived.Test.YtplpogonkfnafaaNmP
import Derived.Lib.SliceRun
import Derived.StillTailTactics
namespace Go.Proofs.Ytplpogonkfnafaa
open Go.RowKit Go.Nm

set_option maxRecDepth 100000 in
set_option maxHeartbeats 2000000 in
theorem clone_any (u : Value) (L : List Int) (w : World) (hu : InSl w w.heap.size u L) (hn : L.length ≤ 1000000) :
    Calls Try.prog 83 #[u] w fun e w' => ∃ r, e = .returned r ∧ OwN w r L w' := by
  have u22 : ∀ (w : World) (a : Option Addr) (n c n' c' : Nat), (binOp .eql 22 (.slice a n c) (.slice none n' c')).run Try.prog w = .ok (.bool a.isNone) w := fun w a n c n' c' => Lib.run_eql_slice_nil w _ _ a n c n' c' Try.underlying22
  obtain ⟨A, c, rfl, hc, hcm, hA⟩ := hu
  cases A with
  | none =>
    have h0 := hA.none_nil
    subst h0
    have HO := Lib.hid (OwN.start w)
    clear hA
    go_enter Try.func83, Try.ntmps83
    go_wp2_with fail
    go_ret
    exact ⟨_, rfl, HO.out⟩
  | some ad =>
    have HC := Lib.hid ((hA.below (below_new (.cells #[] 3))).cells)
    obtain ⟨i0, hi0, hz0, hz1, hz2⟩ := infoI
    have HZ := Lib.hid (show i0.size = 1 ∧ i0.bytes = 8 ∧ Try.prog.info? 3 = some i0 ∧ i0.zero = some (.int .i64 0) from ⟨hz1, hz2, hi0, hz0⟩)
    have HO0 := Lib.hid (show (w.alloc (.cells #[] 3)).ownsRow w.heap.size 3 1 (.slice (some ⟨w.heap.size, 0, none⟩) 0 0) 0 (intsV []) from World.ownsRow_lit (size := 1) w #[] 0 (Nat.le_refl _) (by unfold maxLen; omega) rfl)
    have HI0 := Lib.hid (show OwN w (.slice (some ⟨w.heap.size, 0, none⟩) 0 0) [] (w.alloc (.cells #[] 3)) from ⟨below_new _, HO0.out⟩)
    have HLn := Lib.hid (intsV_len L)
    have HOne := Lib.hid (intsV_one L)
    clear hA hz0 hz1 hz2 hi0
    go_enter Try.func83, Try.ntmps83
    go_wp2_with (at_builtin; refine wpList_append_own _ rfl _ _ 22 rfl w.heap.size 3 i0 (.int .i64 0) 1 8 Try.underlying22 HZ.out.2.2.1 HZ.out.2.2.2 HZ.out.1 HZ.out.2.1 rfl (by decide) (.slice (some ⟨w.heap.size, 0, none⟩) 0 0) 0 (intsV []) rfl HO0.out ad L.length c (intsV L) rfl (by rw [HLn.out, Nat.mul_one]) HC.out HOne.out (by unfold maxLen; omega) (by omega) (by simp) ?_; intro v4 w4 hown4 hg4 hnn4)
    have HO4 := Lib.hid (show OwN w v4 ([] ++ L) w4 from HI0.out.grown (M := L) (Below.refl _ _) hg4 hown4)
    clear hown4 hg4 hnn4
    go_wp2_with fail
    go_ret
    exact ⟨_, rfl, HO4.out⟩
set_option maxRecDepth 100000 in
set_option maxHeartbeats 2000000 in
theorem cloneV_any (u : Value) (L : List Int) (w : World) (hu : InSl w w.heap.size u L) (hn : L.length ≤ 1000000) :
    Calls Try.prog 63 #[u] w fun e w' => ∃ r, e = .returned r ∧ OwN w r L w' := by
  have u22 : ∀ (w : World) (a : Option Addr) (n c n' c' : Nat), (binOp .eql 75 (.slice a n c) (.slice none n' c')).run Try.prog w = .ok (.bool a.isNone) w := fun w a n c n' c' => Lib.run_eql_slice_nil w _ _ a n c n' c' Try.underlying75
  obtain ⟨A, c, rfl, hc, hcm, hA⟩ := hu
  cases A with
  | none =>
    have h0 := hA.none_nil
    subst h0
    have HO := Lib.hid (OwN.start w)
    clear hA
    go_enter Try.func63, Try.ntmps63
    go_wp2_with fail
    go_ret
    exact ⟨_, rfl, HO.out⟩
  | some ad =>
    have HC := Lib.hid ((hA.below (below_new (.cells #[] 3))).cells)
    obtain ⟨i0, hi0, hz0, hz1, hz2⟩ := infoI
    have HZ := Lib.hid (show i0.size = 1 ∧ i0.bytes = 8 ∧ Try.prog.info? 3 = some i0 ∧ i0.zero = some (.int .i64 0) from ⟨hz1, hz2, hi0, hz0⟩)
    have HO0 := Lib.hid (show (w.alloc (.cells #[] 3)).ownsRow w.heap.size 3 1 (.slice (some ⟨w.heap.size, 0, none⟩) 0 0) 0 (intsV []) from World.ownsRow_lit (size := 1) w #[] 0 (Nat.le_refl _) (by unfold maxLen; omega) rfl)
    have HI0 := Lib.hid (show OwN w (.slice (some ⟨w.heap.size, 0, none⟩) 0 0) [] (w.alloc (.cells #[] 3)) from ⟨below_new _, HO0.out⟩)
    have HLn := Lib.hid (intsV_len L)
    have HOne := Lib.hid (intsV_one L)
    clear hA hz0 hz1 hz2 hi0
    go_enter Try.func63, Try.ntmps63
    go_wp2_with (at_builtin; refine wpList_append_own _ rfl _ _ 75 rfl w.heap.size 3 i0 (.int .i64 0) 1 8 Try.underlying75 HZ.out.2.2.1 HZ.out.2.2.2 HZ.out.1 HZ.out.2.1 rfl (by decide) (.slice (some ⟨w.heap.size, 0, none⟩) 0 0) 0 (intsV []) rfl HO0.out ad L.length c (intsV L) rfl (by rw [HLn.out, Nat.mul_one]) HC.out HOne.out (by unfold maxLen; omega) (by omega) (by simp) ?_; intro v4 w4 hown4 hg4 hnn4)
    have HO4 := Lib.hid (show OwN w v4 ([] ++ L) w4 from HI0.out.grown (M := L) (Below.refl _ _) hg4 hown4)
    clear hown4 hg4 hnn4
    go_wp2_with fail
    go_ret
    exact ⟨_, rfl, HO4.out⟩

theorem wp_region_tail {P : Program} {id : Nat} {Q : Exit → Act → World → Prop} {a : Act} {w : World} {l : List Oper} (n : Nat) (hm : P.follows .mixedOrders = true) (hB : Region.lexTailB .any l.toArray n = true)
    (h : wpStill P l.toArray w.drew (fun a' => wpList P l.toArray Q (l.drop n) a' w.drew) (l.take n) a) : (Code.region id l.toArray true).wp P Q a w := wp_region_still_tail n hm hB h

/-- what some names mean some versions on, and back -/
def fwdN (chs : List Ch) (v : Nat) : Nat → List Int → List Int
  | 0, l => l
  | k + 1, l => match chs[v + k]? with | some x => rep (fwdN chs v k l) x.fr x.to | none => fwdN chs v k l
def bwdN (chs : List Ch) (v : Nat) : Nat → List Int → List Int
  | 0, l => l
  | k + 1, l => match chs[v - (k + 1)]? with | some x => rep (bwdN chs v k l) x.to x.fr | none => bwdN chs v k l
def mns (chs : List Ch) (v : Nat) (l : List Int) (w : Nat) : List Int := if v ≤ w then fwdN chs v (w - v) l else bwdN chs v (v - w) l
theorem fwd_step {chs : List Ch} {v k : Nat} {l : List Int} {x : Ch} (h : chs[v + k]? = some x) : fwdN chs v (k + 1) l = rep (fwdN chs v k l) x.fr x.to := by
  conv => lhs; unfold fwdN
  rw [h]
theorem bwd_step {chs : List Ch} {v k : Nat} {l : List Int} {x : Ch} (h : chs[v - (k + 1)]? = some x) : bwdN chs v (k + 1) l = rep (bwdN chs v k l) x.to x.fr := by
  conv => lhs; unfold bwdN
  rw [h]
theorem rep_len (l fr to : List Int) : (rep l fr to).length ≤ l.length + to.length := by
  unfold rep
  have := wo_len l fr
  split
  · omega
  · rw [mg_len]; omega
set_option maxRecDepth 100000 in
set_option maxHeartbeats 8000000 in
theorem meanings_any (v vc u : Value) (b : Bk) (l : List Int) (n m : Nat) (w : World) (hv : HsV w v b vc) (hs : Sm b) (h64 : b.chs.length ≤ 64) (hn : n ≤ b.chs.length) (hm : m ≤ b.chs.length) (hu : InSl w w.heap.size u l) (hl : l.length ≤ 1000) :
    Calls Try.prog 80 #[v, .int .i64 n, u, .int .i64 m] w fun e w' => (∃ r, e = .returned r ∧ InSl w' w'.heap.size r (mns b.chs n l m)) ∧ Below w.heap.size w w' := by
  obtain ⟨vs, rfl, h1, h2⟩ := hv
  have HV := Lib.hid (And.intro h1 (And.intro h2 hs))
  obtain ⟨Av, cv, rfl⟩ := h1.form
  obtain ⟨A2, c2, rfl⟩ := h2.form
  have hb0 := below_new (w := w) (.cells #[.slice Av (vers b).length cv, .slice A2 b.chs.length c2] 67)
  have HC := Lib.hid (clone_any u l _ (hu.step hb0) (by omega))
  have HB0 := Lib.hid (And.intro hb0 (World.alloc_heap_new w (.cells #[.slice Av (vers b).length cv, .slice A2 b.chs.length c2] 67)))
  obtain ⟨A3, c3, rfl, _⟩ := hu.form
  obtain ⟨R, hR⟩ : ∃ R, mns b.chs n l m = R := ⟨_, rfl⟩
  rw [hR]
  have HR := Lib.hid hR
  clear h1 h2 hs hb0 hu hR
  generalize hmm : b.chs.length = len at *
  have HM := Lib.hid hmm
  clear hmm
  by_cases hnm : n ≤ m
  · go_enter Try.func80, Try.ntmps80
    go_wp2_with fail
    refine HC.out.mono ?_
    rintro e w1 ⟨r, rfl, hO⟩
    have HO := Lib.hid hO.sl
    have HB1 := Lib.hid (show Below w.heap.size w w1 ∧ w1.heap[w.heap.size]? = some (.cells #[.slice Av (vers b).length cv, .slice A2 len c2] 67) from ⟨HB0.out.1.trans (hO.bel.mono HB0.out.1.size), (hO.bel.block _ (Array.getElem?_eq_some_iff.1 HB0.out.2).1).trans HB0.out.2⟩)
    clear hO
    go_wp2_with fail
    go_loopw [1, 9] (fun iv o wr => ∃ (k : Nat) (o' : Value), iv = .int .i64 ((n + k : Nat) : Int) ∧ n + k ≤ m ∧ o = o' ∧ InSl wr wr.heap.size o' (fwdN b.chs n k l) ∧ (fwdN b.chs n k l).length ≤ 1000 + 1000 * k ∧ Below w.heap.size w wr ∧ wr.heap[w.heap.size]? = some (.cells #[.slice Av (vers b).length cv, .slice A2 len c2] 67)) (fun iv _ _ => m - (intOf iv).toNat)
    case atStart => exact ⟨0, r, rfl, by omega, rfl, HO.out, by unfold fwdN; omega, HB1.out.1, HB1.out.2⟩
    case round =>
      obtain ⟨k, o', rfl, hkm, rfl, ho, hol, hb, hbox⟩ := hrel
      have HO1 := Lib.hid ho
      have HBx := Lib.hid (And.intro hb hbox)
      clear ho hb hbox
      obtain ⟨A9, c9, rfl, _⟩ := HO1.out.form
      obtain ⟨i, hi⟩ : ∃ i, n + k = i := ⟨_, rfl⟩
      have HIk := Lib.hid hi
      rw [hi] at hkm ⊢
      clear hi
      generalize hO : fwdN b.chs n k l = O at *
      have HOq := Lib.hid hO
      clear hO
      have hk64 : k ≤ 64 := by have := HIk.out; omega
      by_cases hlt : i < m
      · have hlen : i < len := by omega
        obtain ⟨x, ad, vf, vt, hx, rfl, hbd, d0, d1, d2, hf, ht⟩ := (HV.out.2.1.step HBx.out.1).at_ hlen
        obtain ⟨Af, cf, rfl, _⟩ := hf.form
        obtain ⟨At, ct, rfl, _⟩ := ht.form
        have HSx := Lib.hid (HV.out.2.2.2.2 x (List.mem_of_getElem? hx))
        have HSt := Lib.hid (show fwdN b.chs n (k + 1) l = rep O x.fr x.to from by rw [fwd_step (x := x) (by rw [HIk.out]; exact hx), HOq.out])
        have HCall := Lib.hid (replace_any _ (.slice Af x.fr.length cf) (.slice At x.to.length ct) O x.fr x.to wr.drew (HO1.out.step (Below.refl _ _).drew) (hf.step (Below.refl _ _).drew) (ht.step (Below.refl _ _).drew) (by omega) (by have := HSx.out; omega) (by have := HSx.out; omega))
        obtain ⟨k0, k1⟩ := cells_two HBx.out.2
        have HLn := Lib.hid (rep_len O x.fr x.to)
        clear hx hf ht d0
        go_wp2_with fail
        refine wp_region_tail 13 (by kernel_rfl) (by kernel_rfl) ?_
        simp only [List.take_succ_cons, List.take_zero, List.drop_succ_cons, List.drop_zero]
        repeat still_step
        refine wpStill_nil ?_
        go_wp2_with fail
        refine HCall.out.mono ?_
        rintro e w2 ⟨⟨r2, rfl, hr2, _⟩, hb2⟩
        have HN := Lib.hid (show InSl w2 w2.heap.size r2 (rep O x.fr x.to) ∧ Below w.heap.size w w2 ∧ w2.heap[w.heap.size]? = some (.cells #[.slice Av (vers b).length cv, .slice (some ad) len c2] 67) from
          ⟨hr2, HBx.out.1.trans (((Below.refl _ _).drew.trans hb2).mono HBx.out.1.size), (((Below.refl wr.heap.size wr).drew.trans hb2).block _ (Array.getElem?_eq_some_iff.1 HBx.out.2).1).trans HBx.out.2⟩)
        clear hr2 hb2 d1 d2 k0 k1
        go_wp2_with fail
        go_roundw
        case rel => exact ⟨k + 1, r2, by have := HIk.out; rw [show n + (k + 1) = i + 1 from by omega]; go_num, by have := HIk.out; omega, rfl, by rw [HSt.out]; exact HN.out.1, by rw [HSt.out]; have := HLn.out; have := HSx.out; omega, HN.out.2.1, HN.out.2.2⟩
        case measure => simp [intOf]; omega
      · obtain rfl : i = m := by omega
        have HF := Lib.hid (show O = R from by
          rw [← HOq.out, ← HR.out]; unfold mns
          rw [if_pos hnm, show i - n = k from by have := HIk.out; omega])
        have hng : ¬ ((i : Int) < (i : Int)) := by omega
        go_wp2_with fail
        go_loopw [1, 9] (fun iv o wq => iv = .int .i64 (i : Int) ∧ o = .slice A9 O.length c9 ∧ wq = wr) (fun _ _ _ => 0)
        case atStart => exact ⟨rfl, rfl, rfl⟩
        case round =>
          obtain ⟨rfl, rfl, rfl⟩ := hrel
          go_wp2_with fail
          go_ret
          exact ⟨⟨_, rfl, by rw [← HF.out]; exact HO1.out⟩, HBx.out.1⟩
  · have hng : ¬ ((n : Int) < (m : Int)) := by omega
    have hdn : decide (n < m) = false := decide_eq_false (by omega)
    go_enter Try.func80, Try.ntmps80
    go_wp2_with fail
    refine HC.out.mono ?_
    rintro e w1 ⟨r, rfl, hO⟩
    have HO := Lib.hid hO.sl
    obtain ⟨A8, c8, rfl, _⟩ := hO.sl.form
    have HB1 := Lib.hid (show Below w.heap.size w w1 ∧ w1.heap[w.heap.size]? = some (.cells #[.slice Av (vers b).length cv, .slice A2 len c2] 67) from ⟨HB0.out.1.trans (hO.bel.mono HB0.out.1.size), (hO.bel.block _ (Array.getElem?_eq_some_iff.1 HB0.out.2).1).trans HB0.out.2⟩)
    clear hO
    go_wp2_with fail
    go_loopw [1, 9] (fun iv o wq => iv = .int .i64 (n : Int) ∧ o = .slice A8 l.length c8 ∧ wq = w1) (fun _ _ _ => 0)
    case atStart => exact ⟨rfl, rfl, rfl⟩
    case round =>
      obtain ⟨rfl, rfl, rfl⟩ := hrel
      go_wp2_with fail
      go_loopw [1, 9] (fun iv o wr => ∃ (k i : Nat) (o' : Value), iv = .int .i64 (i : Int) ∧ i + k = n ∧ m ≤ i ∧ o = o' ∧ InSl wr wr.heap.size o' (bwdN b.chs n k l) ∧ (bwdN b.chs n k l).length ≤ 1000 + 1000 * k ∧ Below w.heap.size w wr ∧ wr.heap[w.heap.size]? = some (.cells #[.slice Av (vers b).length cv, .slice A2 len c2] 67)) (fun iv _ _ => (intOf iv).toNat - m)
      case atStart => exact ⟨0, n, _, rfl, by omega, by omega, rfl, HO.out, by unfold bwdN; omega, HB1.out.1, HB1.out.2⟩
      case round =>
        rename_i wr
        obtain ⟨k, i0, o', rfl, hik, hmi, rfl, ho, hol, hb, hbox⟩ := hrel
        have HO1 := Lib.hid ho
        have HBx := Lib.hid (And.intro hb hbox)
        clear ho hb hbox
        obtain ⟨A9, c9, rfl, _⟩ := HO1.out.form
        generalize hO : bwdN b.chs n k l = O at *
        have HOq := Lib.hid hO
        clear hO
        have hk64 : k ≤ 64 := by omega
        by_cases hlt : m < i0
        · obtain ⟨i, hi⟩ : ∃ i, i0 = i + 1 := ⟨i0 - 1, by omega⟩
          have HIk := Lib.hid (show n - (k + 1) = i from by omega)
          subst hi
          have hkw : IntKind.i64.wrap (((i : Int) + 1) - 1) = (i : Int) := by rw [IntWalk.i64_in _ (by omega)]; omega
          have hkw2 : IntKind.i64.wrap (i : Int) = (i : Int) := by rw [IntWalk.i64_in _ (by omega)]
          have hil : (i : Int) < 1000 := by omega
          have hlen : i < len := by omega
          obtain ⟨x, ad, vf, vt, hx, rfl, hbd, d0, d1, d2, hf, ht⟩ := (HV.out.2.1.step HBx.out.1).at_ hlen
          obtain ⟨Af, cf, rfl, _⟩ := hf.form
          obtain ⟨At, ct, rfl, _⟩ := ht.form
          have HSx := Lib.hid (HV.out.2.2.2.2 x (List.mem_of_getElem? hx))
          have HSt := Lib.hid (show bwdN b.chs n (k + 1) l = rep O x.to x.fr from by rw [bwd_step (x := x) (by rw [HIk.out]; exact hx), HOq.out])
          have HCall := Lib.hid (replace_any _ (.slice At x.to.length ct) (.slice Af x.fr.length cf) O x.to x.fr wr.drew (HO1.out.step (Below.refl _ _).drew) (ht.step (Below.refl _ _).drew) (hf.step (Below.refl _ _).drew) (by omega) (by have := HSx.out; omega) (by have := HSx.out; omega))
          obtain ⟨k0, k1⟩ := cells_two HBx.out.2
          have HLn := Lib.hid (rep_len O x.to x.fr)
          clear hx hf ht d0
          go_wp2_with fail
          refine wp_region_tail 15 (by kernel_rfl) (by kernel_rfl) ?_
          simp only [List.take_succ_cons, List.take_zero, List.drop_succ_cons, List.drop_zero]
          repeat still_step
          refine wpStill_nil ?_
          go_wp2_with fail
          refine HCall.out.mono ?_
          rintro e w2 ⟨⟨r2, rfl, hr2, _⟩, hb2⟩
          have HN := Lib.hid (show InSl w2 w2.heap.size r2 (rep O x.to x.fr) ∧ Below w.heap.size w w2 ∧ w2.heap[w.heap.size]? = some (.cells #[.slice Av (vers b).length cv, .slice (some ad) len c2] 67) from
            ⟨hr2, HBx.out.1.trans (((Below.refl _ _).drew.trans hb2).mono HBx.out.1.size), (((Below.refl wr.heap.size wr).drew.trans hb2).block _ (Array.getElem?_eq_some_iff.1 HBx.out.2).1).trans HBx.out.2⟩)
          clear hr2 hb2 d1 d2 k0 k1
          go_wp2_with fail
          go_roundw
          case rel => exact ⟨k + 1, i, r2, by go_num, by omega, by omega, rfl, by rw [HSt.out]; exact HN.out.1, by rw [HSt.out]; have := HLn.out; have := HSx.out; omega, HN.out.2.1, HN.out.2.2⟩
          case measure => simp [intOf]; omega
        · obtain rfl : i0 = m := by omega
          have HF := Lib.hid (show O = R from by
            rw [← HOq.out, ← HR.out]; unfold mns
            rw [if_neg hnm, show n - i0 = k from by omega])
          go_wp2_with fail
          go_ret
          exact ⟨⟨_, rfl, by rw [← HF.out]; exact HO1.out⟩, HBx.out.1⟩
end Go.Proofs.Ytplpogonkfnafaa
