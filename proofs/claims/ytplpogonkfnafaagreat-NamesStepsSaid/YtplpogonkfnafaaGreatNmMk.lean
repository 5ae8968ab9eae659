
/- What a name means, in memory of its own. -/
import Derived.Test.YtplpogonkfnafaaGreatNmBc
import Derived.StillTailTactics
namespace Go.Proofs.YtplpogonkfnafaaGreat
open Go.RowKit Go.Nm

/-- a list in memory behind some block -/
def InF (B : Nat) (X : World) (u : Value) (L : List Int) : Prop := InSl X X.heap.size u L ∧ ∀ g, u.ownBlock = some g → B ≤ g
set_option maxRecDepth 100000 in
set_option maxHeartbeats 4000000 in
theorem meanings_new (v vc u : Value) (b : Bk) (l : List Int) (n m : Nat) (w : World) (hv : HsV w v b vc) (hs : Sm b) (h64 : b.chs.length ≤ 64) (hn : n ≤ b.chs.length) (hm : m ≤ b.chs.length) (hu : InSl w w.heap.size u l) (hl : l.length ≤ 1000) :
    Calls Tryz.prog 47 #[v, .int .i64 n, u, .int .i64 m] w fun e w' => (∃ r, e = .returned r ∧ InF w.heap.size w' r (mns b.chs n l m)) ∧ Below w.heap.size w w' := by
  obtain ⟨vs, rfl, h1, h2⟩ := hv
  have HV := Lib.hid (And.intro h1 (And.intro h2 hs))
  obtain ⟨Av, cv, rfl⟩ := h1.form
  obtain ⟨A2, c2, rfl⟩ := h2.form
  have hb0 := below_new (w := w) (.cells #[.slice Av (vers b).length cv, .slice A2 b.chs.length c2] 55)
  have HC := Lib.hid (clone_any u l _ (hu.step hb0) (by omega))
  have HB0 := Lib.hid (And.intro hb0 (World.alloc_heap_new w (.cells #[.slice Av (vers b).length cv, .slice A2 b.chs.length c2] 55)))
  obtain ⟨A3, c3, rfl, _⟩ := hu.form
  obtain ⟨R, hR⟩ : ∃ R, mns b.chs n l m = R := ⟨_, rfl⟩
  rw [hR]
  have HR := Lib.hid hR
  clear h1 h2 hs hb0 hu hR
  generalize hmm : b.chs.length = len at *
  have HM := Lib.hid hmm
  clear hmm
  by_cases hnm : n ≤ m
  · go_enter Tryz.func47, Tryz.ntmps47
    go_wp2_with fail
    refine HC.out.mono ?_
    rintro e w1 ⟨r, rfl, hO⟩
    have HO := Lib.hid (show InF w.heap.size w1 _ l from ⟨hO.sl, fun g e => by have h := (hO.own.lt g e).1; rw [World.size_alloc] at h; omega⟩)
    have HB1 := Lib.hid (show Below w.heap.size w w1 ∧ w1.heap[w.heap.size]? = some (.cells #[.slice Av (vers b).length cv, .slice A2 len c2] 55) from ⟨HB0.out.1.trans (hO.bel.mono HB0.out.1.size), (hO.bel.block _ (Array.getElem?_eq_some_iff.1 HB0.out.2).1).trans HB0.out.2⟩)
    clear hO
    go_wp2_with fail
    go_loopw [1, 9] (fun iv o wr => ∃ (k : Nat) (o' : Value), iv = .int .i64 ((n + k : Nat) : Int) ∧ n + k ≤ m ∧ o = o' ∧ InF w.heap.size wr o' (fwdN b.chs n k l) ∧ (fwdN b.chs n k l).length ≤ 1000 + 1000 * k ∧ Below w.heap.size w wr ∧ wr.heap[w.heap.size]? = some (.cells #[.slice Av (vers b).length cv, .slice A2 len c2] 55)) (fun iv _ _ => m - (intOf iv).toNat)
    case atStart => exact ⟨0, r, rfl, by omega, rfl, HO.out, by unfold fwdN; omega, HB1.out.1, HB1.out.2⟩
    case round =>
      obtain ⟨k, o', rfl, hkm, rfl, ho, hol, hb, hbox⟩ := hrel
      have HO1 := Lib.hid ho
      have HBx := Lib.hid (And.intro hb hbox)
      clear ho hb hbox
      obtain ⟨A9, c9, rfl, _⟩ := HO1.out.1.form
      obtain ⟨i, hi⟩ : ∃ i, n + k = i := ⟨_, rfl⟩
      have HIk := Lib.hid hi
      rw [hi] at hkm ⊢
      clear hi
      generalize hO : fwdN b.chs n k l = O at *
      have HOq := Lib.hid hO
      clear hO
      have hk64 : k ≤ 64 := by have := HIk.out; omega
      by_cases hlt : i < m
      · have hlen : i < len := by omega
        obtain ⟨x, ad, vf, vt, hx, rfl, hbd, d0, d1, d2, hf, ht⟩ := (HV.out.2.1.step HBx.out.1).at_ hlen
        obtain ⟨Af, cf, rfl, _⟩ := hf.form
        obtain ⟨At, ct, rfl, _⟩ := ht.form
        have HSx := Lib.hid (HV.out.2.2.2.2 x (List.mem_of_getElem? hx))
        have HSt := Lib.hid (show fwdN b.chs n (k + 1) l = rep O x.fr x.to from by rw [fwd_step (x := x) (by rw [HIk.out]; exact hx), HOq.out])
        have HCall := Lib.hid (replace_any _ (.slice Af x.fr.length cf) (.slice At x.to.length ct) O x.fr x.to wr.drew (HO1.out.1.step (Below.refl _ _).drew) (hf.step (Below.refl _ _).drew) (ht.step (Below.refl _ _).drew) (by omega) (by have := HSx.out; omega) (by have := HSx.out; omega))
        obtain ⟨k0, k1⟩ := cells_two HBx.out.2
        have HLn := Lib.hid (rep_len O x.fr x.to)
        clear hx hf ht d0
        go_wp2_with fail
        refine wp_region_tail 13 (by kernel_rfl) (by kernel_rfl) ?_
        simp only [List.take_succ_cons, List.take_zero, List.drop_succ_cons, List.drop_zero]
        repeat still_step
        refine wpStill_nil ?_
        go_wp2_with fail
        refine HCall.out.mono ?_
        rintro e w2 ⟨⟨r2, rfl, hr2, hr2o⟩, hb2⟩
        have HN := Lib.hid (show InF w.heap.size w2 r2 (rep O x.fr x.to) ∧ Below w.heap.size w w2 ∧ w2.heap[w.heap.size]? = some (.cells #[.slice Av (vers b).length cv, .slice (some ad) len c2] 55) from
          ⟨⟨hr2, fun g e => by rcases hr2o with h | h; (rw [h] at e; exact HO1.out.2 g e); (have h2 := h g e; have h3 := HBx.out.1.size; exact Nat.le_trans h3 h2)⟩, HBx.out.1.trans (((Below.refl _ _).drew.trans hb2).mono HBx.out.1.size), (((Below.refl wr.heap.size wr).drew.trans hb2).block _ (Array.getElem?_eq_some_iff.1 HBx.out.2).1).trans HBx.out.2⟩)
        clear hr2 hr2o hb2 d1 d2 k0 k1
        go_wp2_with fail
        go_roundw
        case rel => exact ⟨k + 1, r2, by have := HIk.out; rw [show n + (k + 1) = i + 1 from by omega]; go_num, by have := HIk.out; omega, rfl, by rw [HSt.out]; exact HN.out.1, by rw [HSt.out]; have := HLn.out; have := HSx.out; omega, HN.out.2.1, HN.out.2.2⟩
        case measure => simp [intOf]; omega
      · obtain rfl : i = m := by omega
        have HF := Lib.hid (show O = R from by
          rw [← HOq.out, ← HR.out]; unfold mns
          rw [if_pos hnm, show i - n = k from by have := HIk.out; omega])
        have hng : ¬ ((i : Int) < (i : Int)) := by omega
        go_wp2_with fail
        go_loopw [1, 9] (fun iv o wq => iv = .int .i64 (i : Int) ∧ o = .slice A9 O.length c9 ∧ wq = wr) (fun _ _ _ => 0)
        case atStart => exact ⟨rfl, rfl, rfl⟩
        case round =>
          obtain ⟨rfl, rfl, rfl⟩ := hrel
          go_wp2_with fail
          go_ret
          exact ⟨⟨_, rfl, by rw [← HF.out]; exact HO1.out⟩, HBx.out.1⟩
  · have hng : ¬ ((n : Int) < (m : Int)) := by omega
    have hdn : decide (n < m) = false := decide_eq_false (by omega)
    go_enter Tryz.func47, Tryz.ntmps47
    go_wp2_with fail
    refine HC.out.mono ?_
    rintro e w1 ⟨r, rfl, hO⟩
    have HO := Lib.hid (show InF w.heap.size w1 _ l from ⟨hO.sl, fun g e => by have h := (hO.own.lt g e).1; rw [World.size_alloc] at h; omega⟩)
    obtain ⟨A8, c8, rfl, _⟩ := hO.sl.form
    have HB1 := Lib.hid (show Below w.heap.size w w1 ∧ w1.heap[w.heap.size]? = some (.cells #[.slice Av (vers b).length cv, .slice A2 len c2] 55) from ⟨HB0.out.1.trans (hO.bel.mono HB0.out.1.size), (hO.bel.block _ (Array.getElem?_eq_some_iff.1 HB0.out.2).1).trans HB0.out.2⟩)
    clear hO
    go_wp2_with fail
    go_loopw [1, 9] (fun iv o wq => iv = .int .i64 (n : Int) ∧ o = .slice A8 l.length c8 ∧ wq = w1) (fun _ _ _ => 0)
    case atStart => exact ⟨rfl, rfl, rfl⟩
    case round =>
      obtain ⟨rfl, rfl, rfl⟩ := hrel
      go_wp2_with fail
      go_loopw [1, 9] (fun iv o wr => ∃ (k i : Nat) (o' : Value), iv = .int .i64 (i : Int) ∧ i + k = n ∧ m ≤ i ∧ o = o' ∧ InF w.heap.size wr o' (bwdN b.chs n k l) ∧ (bwdN b.chs n k l).length ≤ 1000 + 1000 * k ∧ Below w.heap.size w wr ∧ wr.heap[w.heap.size]? = some (.cells #[.slice Av (vers b).length cv, .slice A2 len c2] 55)) (fun iv _ _ => (intOf iv).toNat - m)
      case atStart => exact ⟨0, n, _, rfl, by omega, by omega, rfl, HO.out, by unfold bwdN; omega, HB1.out.1, HB1.out.2⟩
      case round =>
        rename_i wr
        obtain ⟨k, i0, o', rfl, hik, hmi, rfl, ho, hol, hb, hbox⟩ := hrel
        have HO1 := Lib.hid ho
        have HBx := Lib.hid (And.intro hb hbox)
        clear ho hb hbox
        obtain ⟨A9, c9, rfl, _⟩ := HO1.out.1.form
        generalize hO : bwdN b.chs n k l = O at *
        have HOq := Lib.hid hO
        clear hO
        have hk64 : k ≤ 64 := by omega
        by_cases hlt : m < i0
        · obtain ⟨i, hi⟩ : ∃ i, i0 = i + 1 := ⟨i0 - 1, by omega⟩
          have HIk := Lib.hid (show n - (k + 1) = i from by omega)
          subst hi
          have hkw : IntKind.i64.wrap (((i : Int) + 1) - 1) = (i : Int) := by rw [IntWalk.i64_in _ (by omega)]; omega
          have hkw2 : IntKind.i64.wrap (i : Int) = (i : Int) := by rw [IntWalk.i64_in _ (by omega)]
          have hil : (i : Int) < 1000 := by omega
          have hlen : i < len := by omega
          obtain ⟨x, ad, vf, vt, hx, rfl, hbd, d0, d1, d2, hf, ht⟩ := (HV.out.2.1.step HBx.out.1).at_ hlen
          obtain ⟨Af, cf, rfl, _⟩ := hf.form
          obtain ⟨At, ct, rfl, _⟩ := ht.form
          have HSx := Lib.hid (HV.out.2.2.2.2 x (List.mem_of_getElem? hx))
          have HSt := Lib.hid (show bwdN b.chs n (k + 1) l = rep O x.to x.fr from by rw [bwd_step (x := x) (by rw [HIk.out]; exact hx), HOq.out])
          have HCall := Lib.hid (replace_any _ (.slice At x.to.length ct) (.slice Af x.fr.length cf) O x.to x.fr wr.drew (HO1.out.1.step (Below.refl _ _).drew) (ht.step (Below.refl _ _).drew) (hf.step (Below.refl _ _).drew) (by omega) (by have := HSx.out; omega) (by have := HSx.out; omega))
          obtain ⟨k0, k1⟩ := cells_two HBx.out.2
          have HLn := Lib.hid (rep_len O x.to x.fr)
          clear hx hf ht d0
          go_wp2_with fail
          refine wp_region_tail 15 (by kernel_rfl) (by kernel_rfl) ?_
          simp only [List.take_succ_cons, List.take_zero, List.drop_succ_cons, List.drop_zero]
          repeat still_step
          refine wpStill_nil ?_
          go_wp2_with fail
          refine HCall.out.mono ?_
          rintro e w2 ⟨⟨r2, rfl, hr2, hr2o⟩, hb2⟩
          have HN := Lib.hid (show InF w.heap.size w2 r2 (rep O x.to x.fr) ∧ Below w.heap.size w w2 ∧ w2.heap[w.heap.size]? = some (.cells #[.slice Av (vers b).length cv, .slice (some ad) len c2] 55) from
            ⟨⟨hr2, fun g e => by rcases hr2o with h | h; (rw [h] at e; exact HO1.out.2 g e); (have h2 := h g e; have h3 := HBx.out.1.size; exact Nat.le_trans h3 h2)⟩, HBx.out.1.trans (((Below.refl _ _).drew.trans hb2).mono HBx.out.1.size), (((Below.refl wr.heap.size wr).drew.trans hb2).block _ (Array.getElem?_eq_some_iff.1 HBx.out.2).1).trans HBx.out.2⟩)
          clear hr2 hr2o hb2 d1 d2 k0 k1
          go_wp2_with fail
          go_roundw
          case rel => exact ⟨k + 1, i, r2, by go_num, by omega, by omega, rfl, by rw [HSt.out]; exact HN.out.1, by rw [HSt.out]; have := HLn.out; have := HSx.out; omega, HN.out.2.1, HN.out.2.2⟩
          case measure => simp [intOf]; omega
        · obtain rfl : i0 = m := by omega
          have HF := Lib.hid (show O = R from by
            rw [← HOq.out, ← HR.out]; unfold mns
            rw [if_neg hnm, show n - i0 = k from by omega])
          go_wp2_with fail
          go_ret
          exact ⟨⟨_, rfl, by rw [← HF.out]; exact HO1.out⟩, HBx.out.1⟩
set_option maxRecDepth 100000 in
set_option maxHeartbeats 4000000 in
theorem meaning_new (v vc : Value) (b : Bk) (x : Int) (n m : Nat) (w : World) (hv : HsV w v b vc) (hs : Sm b) (h64 : b.chs.length ≤ 64) (hn : n ≤ b.chs.length) (hm : m ≤ b.chs.length) :
    Calls Tryz.prog 23 #[v, .int .i64 n, .int .i64 x, .int .i64 m] w fun e w' => (∃ r, e = .returned r ∧ InF w.heap.size w' r (mns b.chs n [x] m)) ∧ Below w.heap.size w w' := by
  have hv0 := hv
  obtain ⟨vs, rfl, h1, h2⟩ := hv
  obtain ⟨Av, cv, rfl⟩ := h1.form
  obtain ⟨A2, c2, rfl⟩ := h2.form
  have hb0 := below_new (w := w) (.cells #[.slice Av (vers b).length cv, .slice A2 b.chs.length c2] 55)
  have hb1 := below_new (w := w.alloc (.cells #[.slice Av (vers b).length cv, .slice A2 b.chs.length c2] 55)) (.cells #[.int .i64 x] 3)
  have HC := Lib.hid (meanings_new _ _ _ b [x] n m _ ((hv0.step hb0).step hb1) hs h64 hn hm (one_sl _ x) (by simp))
  have HB := Lib.hid (hb0.trans (hb1.mono hb0.size))
  clear hv0 h1 h2 hb0 hb1
  generalize mns b.chs n [x] m = R at *
  rw [World.size_alloc] at HC
  go_enter Tryz.func23, Tryz.ntmps23
  go_wp2_with fail
  (with_reducible refine HC.out.mono ?_)
  rintro e w1 ⟨⟨r, rfl, hr, hrf⟩, hb⟩
  have HR := Lib.hid (And.intro (show InF w.heap.size w1 r R from ⟨hr, fun g e => by have h := hrf g e; simp only [World.size_alloc] at h; omega⟩) (HB.out.trans (hb.mono HB.out.size)))
  obtain ⟨A3, c3, rfl, _⟩ := hr.form
  clear hr hrf hb
  go_wp2_with fail
  go_ret
  exact ⟨⟨_, rfl, HR.out.1⟩, HR.out.2⟩

end Go.Proofs.YtplpogonkfnafaaGreat
