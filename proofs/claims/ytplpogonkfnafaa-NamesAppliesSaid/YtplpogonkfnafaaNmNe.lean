/- Apply. -/
import Derived.Test.YtplpogonkfnafaaNmNd
import Derived.Test.YtplpogonkfnafaaNmMh
namespace Go.Proofs.Ytplpogonkfnafaa
open Go.RowKit Go.Nm

/-- the value is a change with lists of its own -/
def Cy (B : Nat) (x : Ch) (X : World) (r : Value) : Prop := ∃ vf vt, r = .agg #[.int .i64 x.yr, vf, vt] ∧ Fr B X vf x.fr ∧ Fr B X vt x.to
theorem Cy.step {B : Nat} {x : Ch} {X Y : World} {r : Value} (h : Cy B x X r) (hb : Below X.heap.size X Y) : Cy B x Y r := by
  obtain ⟨vf, vt, e, h1, h2⟩ := h; exact ⟨vf, vt, e, h1.step hb, h2.step hb⟩
theorem Cy.low {B B' : Nat} {x : Ch} {X : World} {r : Value} (h : Cy B x X r) (hb : B' ≤ B) : Cy B' x X r := by
  obtain ⟨vf, vt, e, h1, h2⟩ := h; exact ⟨vf, vt, e, h1.low hb, h2.low hb⟩
/-- a row of one such change -/
def Cb (B : Nat) (x : Ch) (X : World) (r : Value) : Prop := ∃ g vf vt, r = .slice (some ⟨g, 0, none⟩) 1 1 ∧ X.heap[g]? = some (.cells #[.int .i64 x.yr, vf, vt] 52) ∧ Fr B X vf x.fr ∧ Fr B X vt x.to
theorem Cb.step {B : Nat} {x : Ch} {X Y : World} {r : Value} (h : Cb B x X r) (hb : Below X.heap.size X Y) : Cb B x Y r := by
  obtain ⟨g, vf, vt, e, h1, h2, h3⟩ := h
  exact ⟨g, vf, vt, e, (hb.block _ (Array.getElem?_eq_some_iff.1 h1).1).trans h1, h2.step hb, h3.step hb⟩
structure CpI (V : World) (x : Ch) (S : Value → World → Prop) (R : World → Prop) (pb vs old : Value) (dn : Nat → Bool) (val : Nat → Value) (X : World) : Prop where
  s0 : dn 0 = true → val 0 = pb
  s1 : dn 1 = true → val 1 = vs
  s2 : dn 2 = true → val 2 = old
  s6 : dn 6 = true → val 6 = pb
  bel : dn 5 = false → Below V.heap.size V X
  e3 : dn 3 = true → dn 5 = false → Cy V.heap.size x X (val 3)
  e4 : dn 4 = true → dn 5 = false → Cb V.heap.size x X (val 4)
  e5 : dn 5 = true → dn 7 = false → S (val 5) X
  e7 : dn 7 = true → R X
section
variable {V : World} {x : Ch} {S : Value → World → Prop} {R : World → Prop} {pb vs old : Value} {dn : Nat → Bool} {val : Nat → Value} {X Y : World}
theorem CpI.op0 (h : CpI V x S R pb vs old dn val X) : CpI V x S R pb vs old (andB dn 0) (updV val 0 (pb)) X :=
  ⟨(fun _ => rfl), h.s1, h.s2, h.s6, h.bel, h.e3, h.e4, h.e5, h.e7⟩
theorem CpI.op1 (h : CpI V x S R pb vs old dn val X) : CpI V x S R pb vs old (andB dn 1) (updV val 1 (vs)) X :=
  ⟨h.s0, (fun _ => rfl), h.s2, h.s6, h.bel, h.e3, h.e4, h.e5, h.e7⟩
theorem CpI.op2 (h : CpI V x S R pb vs old dn val X) : CpI V x S R pb vs old (andB dn 2) (updV val 2 (old)) X :=
  ⟨h.s0, h.s1, (fun _ => rfl), h.s6, h.bel, h.e3, h.e4, h.e5, h.e7⟩
theorem CpI.op6 (h : CpI V x S R pb vs old dn val X) : CpI V x S R pb vs old (andB dn 6) (updV val 6 (pb)) X :=
  ⟨h.s0, h.s1, h.s2, (fun _ => rfl), h.bel, h.e3, h.e4, h.e5, h.e7⟩
theorem CpI.op3 (h : CpI V x S R pb vs old dn val X) (n4 : dn 4 = false) (n5 : dn 5 = false) (n7 : dn 7 = false) {u : Value} (hb : Below X.heap.size X Y) (hu : Cy X.heap.size x Y u) : CpI V x S R pb vs old (andB dn 3) (updV val 3 (u)) (Y) :=
  ⟨h.s0, h.s1, h.s2, h.s6, (fun n => (h.bel n).trans (hb.mono (h.bel n).size)), (fun _ n => hu.low (h.bel n).size), (fun d => f_t n4 d), (fun d => f_t n5 d), (fun d => f_t n7 d)⟩
theorem CpI.op4 (h : CpI V x S R pb vs old dn val X) (n5 : dn 5 = false) (n7 : dn 7 = false) {u : Value} (hb : Below X.heap.size X Y) (hu : Cb V.heap.size x Y u) : CpI V x S R pb vs old (andB dn 4) (updV val 4 (u)) (Y) :=
  ⟨h.s0, h.s1, h.s2, h.s6, (fun n => (h.bel n).trans (hb.mono (h.bel n).size)), (fun d n => (h.e3 d n).step hb), (fun _ _ => hu), (fun d => f_t n5 d), (fun d => f_t n7 d)⟩
theorem CpI.op5 (h : CpI V x S R pb vs old dn val X) (n7 : dn 7 = false) {u : Value} (hS : S u Y) : CpI V x S R pb vs old (andB dn 5) (updV val 5 (u)) (Y) :=
  ⟨h.s0, h.s1, h.s2, h.s6, (fun n => nomatch n), (fun _ n => nomatch n), (fun _ n => nomatch n), (fun _ _ => hS), (fun d => f_t n7 d)⟩
theorem CpI.op7 (h : CpI V x S R pb vs old dn val X) (y5 : dn 5 = true) {u : Value} (hR : R Y) : CpI V x S R pb vs old (andB dn 7) (updV val 7 (u)) (Y) :=
  ⟨h.s0, h.s1, h.s2, h.s6, (fun n => f_t n y5), (fun _ n => f_t n y5), (fun _ n => f_t n y5), (fun _ n => nomatch n), (fun _ => hR)⟩
end
section
variable {o : Oper} {a : Act} {w : World} {K : Act → World → Prop} {Q : Exit → Act → World → Prop}
set_option maxRecDepth 100000 in
theorem opBoxC (q : Nat) (y : Int) (A1 A2 : Option Addr) (n1 d1 n2 d2 : Nat) (ho : o.op = .buildSlice 23 1 #[(0, .tmp q)]) (hq : a.tmps.getD q undef = .agg #[.int .i64 y, .slice A1 n1 d1, .slice A2 n2 d2]) (h : K (a.put o.dst (.slice (some ⟨w.heap.size, 0, none⟩) 1 1)) (w.alloc (.cells #[.int .i64 y, .slice A1 n1 d1, .slice A2 n2 d2] 52))) : o.wp Try.prog a w K Q := by
  unfold Oper.wp execOp
  have he : a.tmps[q]?.getD undef = .agg #[.int .i64 y, .slice A1 n1 d1, .slice A2 n2 d2] := by rw [← hq, Array.getD_eq_getD_getElem?]
  simp only [ho]
  go_simp
  exact h
set_option maxRecDepth 100000 in
theorem opStoreCs (q r : Nat) (p : Addr) (v : Value) (old : Value) (ho : o.op = .store 23 (.tmp q) (.tmp r)) (hq : a.tmps.getD q undef = .pointer (some p)) (hr : a.tmps.getD r undef = v) (hv : ∃ A n c, v = .slice A n c) (hc : w.cell? p = some old) (hf : w.frozen? p = false) (h : ∀ u, K (a.put o.dst u) (w.setCell p v)) : o.wp Try.prog a w K Q := by
  obtain ⟨A, n, c, rfl⟩ := hv
  unfold Oper.wp execOp
  have he : a.eval (.tmp q) = .pointer (some p) := hq
  have he2 : a.eval (.tmp r) = .slice A n c := hr
  simp only [ho, he, he2]
  go_simp
  exact h _
end
theorem own_some {X : World} {B z n : Nat} {t : TypeId} {v : Value} {xs : List Value} (h : X.ownsRow B t z v n xs) : ∃ A m c, v = .slice A m c := by
  rcases h.2 with ⟨e, _⟩ | ⟨g, cap, cur, e, _⟩
  · exact ⟨_, _, _, e⟩
  · exact ⟨_, _, _, e⟩
def applyOut (b : Bk) (x : Ch) : Bk × Int := if openE b [] = 0 then (if b.chs.length = 64 then (⟨[], []⟩, 2) else if openE ⟨b.first, b.chs ++ [x]⟩ [] = 0 then (⟨b.first, b.chs ++ [x]⟩, 0) else (⟨[], []⟩, 1)) else (⟨[], []⟩, openE b [])
def OutA (o : Bk × Int) (w : World) (e : Ending) (w' : World) : Prop := ∃ u vc, e = .returned (.tuple #[u, .int .i64 o.2]) ∧ BkV w' u o.1 vc ∧ Below w.heap.size w w'
theorem bk_nil (w : World) : BkV w (.agg #[.slice none 0 0, .slice none 0 0]) ⟨[], []⟩ (.slice none 0 0) := ⟨_, rfl, InSl.nil _ _, none, 0, rfl, fun i x h => by simp at h⟩
set_option maxRecDepth 100000 in
set_option maxHeartbeats 16000000 in
theorem Apply_any (v vc vf vt : Value) (b : Bk) (y : Ch) (w : World) (hv : BkV w v b vc) (hs : Sm b) (hf : InSl w w.heap.size vf y.fr) (ht : InSl w w.heap.size vt y.to) (hl : y.fr.length ≤ 1000 ∧ y.to.length ≤ 1000) :
    Calls Try.prog 44 #[v, .agg #[.int .i64 y.yr, vf, vt]] w (OutA (applyOut b y) w) := by
  obtain ⟨v1, rfl, h1, h2⟩ := hv
  obtain ⟨A1, c1, rfl, _⟩ := h1.form
  obtain ⟨A2, c2, rfl⟩ := h2.form
  obtain ⟨Af, cf, rfl, _⟩ := hf.form
  obtain ⟨At, ct, rfl, _⟩ := ht.form
  have H1 := Lib.hid h1
  have H2 := Lib.hid h2
  have HF := Lib.hid hf
  have HT := Lib.hid ht
  have HLy := Lib.hid hl
  have HS := Lib.hid hs
  obtain ⟨nf, hnf⟩ : ∃ n, b.first.length = n := ⟨_, rfl⟩
  obtain ⟨len, hlen⟩ : ∃ n, b.chs.length = n := ⟨_, rfl⟩
  obtain ⟨yf, hyf⟩ : ∃ n, y.fr.length = n := ⟨_, rfl⟩
  obtain ⟨yt, hyt⟩ : ∃ n, y.to.length = n := ⟨_, rfl⟩
  have HLn := Lib.hid hlen
  have hl1 : len ≤ 1000 := by have := hs.2.1; omega
  have HFl := Lib.hid (show b.first.length ≤ 1000 from hs.1)
  have HSm2 := Lib.hid (show b.chs.length < 1000 → Sm ⟨b.first, b.chs ++ [y]⟩ from fun h => ⟨hs.1, by simp; omega, fun x hx => by
    rcases List.mem_append.1 hx with hx | hx
    · exact hs.2.2 x hx
    · simp at hx; subst hx; exact hl⟩)
  rw [hnf] at H1
  rw [hlen] at H2
  rw [hyf] at HF
  rw [hyt] at HT
  have hM : applyOut b y = if openE b [] = 0 then (if len = 64 then (⟨[], []⟩, 2) else if openE ⟨b.first, b.chs ++ [y]⟩ [] = 0 then (⟨b.first, b.chs ++ [y]⟩, 0) else (⟨[], []⟩, 1)) else (⟨[], []⟩, openE b []) := by rw [← hlen]; rfl
  have HM := Lib.hid hM
  rw [hnf, hlen, hyf, hyt]
  clear h1 h2 hf ht hs hl hM
  obtain ⟨W0, hW0⟩ : ∃ W0, ((w.alloc (.cells #[.slice A1 nf c1, .slice A2 len c2] 25)).alloc (.cells #[.int .i64 y.yr, .slice Af yf cf, .slice At yt ct] 52)).alloc (.cells #[.slice none 0 0, .slice none 0 0] 25) = W0 := ⟨_, rfl⟩
  have hE1 := below_new (w := w) (.cells #[.slice A1 nf c1, .slice A2 len c2] 25)
  have hE2 := below_new (w := w.alloc (.cells #[.slice A1 nf c1, .slice A2 len c2] 25)) (.cells #[.int .i64 y.yr, .slice Af yf cf, .slice At yt ct] 52)
  have hE3 := below_new (w := (w.alloc (.cells #[.slice A1 nf c1, .slice A2 len c2] 25)).alloc (.cells #[.int .i64 y.yr, .slice Af yf cf, .slice At yt ct] 52)) (.cells #[.slice none 0 0, .slice none 0 0] 25)
  have hsz1 : (w.alloc (.cells #[.slice A1 nf c1, .slice A2 len c2] 25)).heap.size = w.heap.size + 1 := by simp
  have hsz2 : ((w.alloc (.cells #[.slice A1 nf c1, .slice A2 len c2] 25)).alloc (.cells #[.int .i64 y.yr, .slice Af yf cf, .slice At yt ct] 52)).heap.size = w.heap.size + 2 := by simp
  have hn1 := World.alloc_heap_new w (.cells #[.slice A1 nf c1, .slice A2 len c2] 25)
  have hn2 := World.alloc_heap_new (w.alloc (.cells #[.slice A1 nf c1, .slice A2 len c2] 25)) (.cells #[.int .i64 y.yr, .slice Af yf cf, .slice At yt ct] 52)
  have hn3 := World.alloc_heap_new ((w.alloc (.cells #[.slice A1 nf c1, .slice A2 len c2] 25)).alloc (.cells #[.int .i64 y.yr, .slice Af yf cf, .slice At yt ct] 52)) (.cells #[.slice none 0 0, .slice none 0 0] 25)
  rw [hsz1] at hn2
  rw [hsz2] at hn3
  have hn2 := (hE3.block _ (by omega)).trans hn2
  have hn1 := (hE3.block _ (by omega)).trans ((hE2.block _ (by omega)).trans hn1)
  have hB0 := hE1.trans ((hE2.trans (hE3.mono hE2.size)).mono hE1.size)
  have hs0 : w.heap.size + 3 ≤ W0.heap.size := by rw [← hW0]; simp
  rw [hW0] at hB0 hn1 hn2 hn3
  clear hE1 hE2 hE3 hsz1 hsz2
  have HB0 := Lib.hid hB0
  have HX := Lib.hid (fun Y (h : Below W0.heap.size W0 Y) => cells_two ((h.block w.heap.size (by omega)).trans hn1))
  have HY := Lib.hid (fun Y (h : Below W0.heap.size W0 Y) => cells_three ((h.block (w.heap.size + 1) (by omega)).trans hn2))
  have HR := Lib.hid (fun Y (h : Below W0.heap.size W0 Y) => (h.block (w.heap.size + 2) (by omega)).trans hn3)
  have HO := Lib.hid (fun Y (h : Below W0.heap.size W0 Y) => open_any (.agg #[.slice A1 nf c1, .slice A2 len c2]) (.slice A2 len c2) (.slice none 0 0) b [] Y ⟨_, rfl, (H1.out.step HB0.out).step h, (H2.out.step HB0.out).step h⟩ HS.out (InSl.nil _ _) (by simp))
  have HW0 := Lib.hid hW0
  obtain ⟨k0, k1⟩ := HX.out W0 (Below.refl _ _)
  rw [← hW0] at k0 k1
  clear hB0 hn1 hn2 hn3 hW0 hnf hlen hyf hyt
  have HV64 := Lib.hid (show openE b [] = 0 → len ≤ 64 from fun h => by have := (openE_val h).1.1; have := HLn.out; omega)
  generalize applyOut b y = o at *
  obtain ⟨oR, oE⟩ := o
  generalize openE b [] = er at *
  go_enter Try.func44, Try.ntmps44
  go_wp2_with fail
  rw [HW0.out]
  (with_reducible refine (HO.out W0 (Below.refl _ _)).mono ?_)
  rintro e w1 ⟨u, rfl, hu0, hu1, hb⟩
  have HB1 := Lib.hid hb
  have HU := Lib.hid (And.intro hu0 hu1)
  clear hb hu0 hu1 k0 k1
  by_cases he : er = 0
  · subst he
    have hM := HM.out
    rw [if_pos rfl] at hM
    clear HM
    have HV0 := Lib.hid (HV64.out rfl)
    clear HV64
    obtain ⟨Av, cv, rfl, _⟩ := vers_sl (HU.out.1 rfl)
    have hE := below_new (w := w1) (.cells #[.slice Av (vers b).length cv, .slice A2 len c2] 67)
    have HBw := Lib.hid (HB1.out.trans (hE.mono HB1.out.size))
    obtain ⟨k0, k1⟩ := HX.out _ HBw.out
    clear hE HU
    by_cases h64 : len = 64
    · rw [if_pos h64] at hM
      injection hM with hM1 hM2
      subst hM1 hM2
      have hq : ((len : Int) == 64) = true := by simp; omega
      clear h64
      obtain ⟨r0, r1⟩ := cells_two (HR.out _ HBw.out)
      have f0 := frozen_cells (HR.out _ HBw.out) 0
      have f1 := frozen_cells (HR.out _ HBw.out) 1
      have HBf := Lib.hid (HB0.out.trans ((HBw.out).mono HB0.out.size))
      go_wp2_with fail
      (try rw [Exit.noGoto_ret])
      exact bodyPost_ret (v := .tuple #[.agg #[.slice none 0 0, .slice none 0 0], .int .i64 2]) (by simp [results, Try.results44, go_sem, r0, r1]) rfl ⟨_, _, rfl, bk_nil _, (HBf.out.setCell (by simp; omega) _).setCell (by simp; omega) _⟩
    · rw [if_neg h64] at hM
      have HM := Lib.hid hM
      have hq : ((len : Int) == 64) = false := by simp; omega
      have HCl := Lib.hid (clone_any _ b.first _ ((H1.out.step HB0.out).step HBw.out) (by have := HFl.out; omega))
      clear hM
      go_wp2_with fail
      (with_reducible refine HCl.out.mono ?_)
      rintro e wc ⟨r, rfl, hO⟩
      obtain ⟨Wb, hWb⟩ : ∃ W, w1.alloc (.cells #[.slice Av (vers b).length cv, .slice A2 len c2] 67) = W := ⟨_, rfl⟩
      rw [hWb] at hO HBw
      clear hWb
      have HBc := Lib.hid (HBw.out.trans (hO.bel.mono HBw.out.size))
      have HLg0 := Lib.hid (LgI.start hO)
      obtain ⟨Ar, cr, rfl, _⟩ := hO.sl.form
      have hE := below_new (w := wc) (.cells #[.slice Ar b.first.length cr, .slice none 0 0] 25)
      have HBg := Lib.hid (HBc.out.trans (hE.mono HBc.out.size))
      clear hO hE k0 k1 HCl
      obtain ⟨k0, k1⟩ := HX.out _ HBg.out
      go_wp2_with fail
      obtain ⟨gb, hgb⟩ : ∃ g, wc.heap.size = g := ⟨_, rfl⟩
      obtain ⟨Wg, hWg⟩ : ∃ W, wc.alloc (.cells #[.slice Ar b.first.length cr, .slice none 0 0] 25) = W := ⟨_, rfl⟩
      have HWc := Lib.hid (And.intro hgb HBw.out)
      rw [hgb, hWg] at HLg0
      rw [hWg] at HBg k0 k1 ⊢
      rw [hgb]
      obtain ⟨fv, hfv⟩ : ∃ f, Value.slice Ar b.first.length cr = f := ⟨_, rfl⟩
      rw [hfv] at HLg0
      have HFv := Lib.hid hfv
      clear hWg hgb hfv HBw
      go_loopw [34] (fun iv wr => ∃ (i : Nat) (vals : List Value) (vs : Value), iv = .int .i64 (i : Int) ∧ i ≤ len ∧ LgI Wb gb b.first (b.chs.take i) vals fv vs wr) (fun iv _ => len - (intOf iv).toNat)
      case atStart => exact ⟨0, [], _, rfl, by omega, by simpa using HLg0.out⟩
      case round =>
        obtain ⟨i, vals, vs, rfl, hil, hL⟩ := hrel
        have HLi := Lib.hid hL
        have HBr := Lib.hid (HWc.out.2.trans (hL.bel.mono HWc.out.2.size))
        clear hL k0 k1
        by_cases hlt : i < len
        · obtain ⟨x, ad, Bf, bf, Bt, bt, hx, rfl, hrd⟩ := ch_reads3 (H2.out.step HB0.out) hlt
          have HRd := Lib.hid hrd
          have HLx := Lib.hid (HS.out.2.2 x (List.mem_of_getElem? hx))
          have HTk := Lib.hid (show b.chs.take (i + 1) = b.chs.take i ++ [x] from by rw [List.take_add_one, hx]; rfl)
          have HLn0 := Lib.hid (show (b.chs.take i).length ≤ 1000 from by rw [List.length_take]; have := HLn.out; omega)
          have hi1 : (i : Int) < (len : Int) := by omega
          obtain ⟨⟨d0, d1, d2⟩, _⟩ := hrd wr HBr.out
          clear hrd hx
          go_wp2_with fail
          obtain ⟨V, hV⟩ : ∃ V, wr.alloc (.cells #[.int .i64 x.yr, .slice Bf x.fr.length bf, .slice Bt x.to.length bt] 52) = V := ⟨_, rfl⟩
          have hE := below_new (w := wr) (.cells #[.int .i64 x.yr, .slice Bf x.fr.length bf, .slice Bt x.to.length bt] 52)
          have HNx := Lib.hid (fun Y (h : Below (wr.alloc (.cells #[.int .i64 x.yr, .slice Bf x.fr.length bf, .slice Bt x.to.length bt] 52)).heap.size (wr.alloc (.cells #[.int .i64 x.yr, .slice Bf x.fr.length bf, .slice Bt x.to.length bt] 52)) Y) => new3 (w := wr) (Y := Y) h)
          rw [hV] at hE HNx ⊢
          have HLv := Lib.hid (HLi.out.step hE)
          have HRx := Lib.hid (fun Y (h : Below V.heap.size V Y) => (HRd.out Y (HBr.out.trans (((hE.trans (h.mono hE.size))).mono HBr.out.size))).2)
          clear hE hV d0 d1 d2 HRd
          refine wp_opaque ?_
          intro t0 ht0
          have hsz0 : t0.size = 62 := by rw [ht0]; rfl
          have t8 : t0.getD 8 undef = .pointer (some ⟨gb, 0, none⟩) := by rw [ht0]; rfl
          have tS : t0.getD 10 undef = .pointer (some ⟨wr.heap.size, 0, none⟩) := by rw [ht0]; rfl
          have HT0 := Lib.hid ht0
          clear ht0
          refine wp_region_vals [some 38, some 39, some 40, some 41, some 42, some 43, some 44, none] (CpI V.drew x (fun u X => ∃ vals', LgI Wb gb b.first (b.chs.take i ++ [x]) vals' fv u (X.setCell ⟨gb, 1, none⟩ u) ∧ X.cell? ⟨gb, 1, none⟩ = some vs ∧ X.frozen? ⟨gb, 1, none⟩ = false ∧ ∃ A n c, u = .slice A n c) (fun X => ∃ vals' vs', LgI Wb gb b.first (b.chs.take i ++ [x]) vals' fv vs' X) (.pointer (some ⟨gb, 1, none⟩)) vs (.agg #[.int .i64 x.yr, .slice Bf x.fr.length bf, .slice Bt x.to.length bt])) (by kernel_rfl) (by kernel_rfl) rfl rfl (by simp [hsz0]) (by kernel_rfl) ?_ ?_ ?_
          · intro val
            exact ⟨(fun h => nomatch h), (fun h => nomatch h), (fun h => nomatch h), (fun h => nomatch h), fun _ => Below.refl _ _, (fun h => nomatch h), (fun h => nomatch h), (fun h => nomatch h), (fun h => nomatch h)⟩
          · intro dn q o hi hd hp hc val X a ha hn hI K hK
            have hq : q < 8 := by
              have := (Array.getElem?_eq_some_iff.1 hi).1
              simpa using this
            have c1 : dn 1 = true → dn 0 = true := fun h => hc 1 _ rfl h ⟨0, .data⟩ (by simp) rfl
            have c3 : dn 3 = true → dn 2 = true := fun h => hc 3 _ rfl h ⟨2, .data⟩ (by simp) rfl
            have c4 : dn 4 = true → dn 3 = true := fun h => hc 4 _ rfl h ⟨3, .data⟩ (by simp) rfl
            have c5 : dn 5 = true → dn 1 = true ∧ dn 4 = true := fun h => ⟨hc 5 _ rfl h ⟨1, .data⟩ (by simp) rfl, hc 5 _ rfl h ⟨4, .data⟩ (by simp) rfl⟩
            have c7 : dn 7 = true → dn 5 = true := fun h => hc 7 _ rfl h ⟨5, .data⟩ (by simp) rfl
            have bf : ∀ {q : Bool}, (q = true → False) → q = false := fun {q} h => by cases q; rfl; exact (h rfl).elim
            have hBd : dn 5 = false → Below V.heap.size V X := fun n => (Below.refl V.heap.size V).drew.trans (hI.bel n)
            rcases (show q = 0 ∨ q = 1 ∨ q = 2 ∨ q = 3 ∨ q = 4 ∨ q = 5 ∨ q = 6 ∨ q = 7 by omega) with rfl | rfl | rfl | rfl | rfl | rfl | rfl | rfl
            · obtain rfl := Option.some.inj hi
              exact opField1 8 gb rfl ((ha 8).trans t8) (hK _ _ hI.op0)
            · obtain rfl := Option.some.inj hi
              have y0 := hp ⟨0, .data⟩ (by simp) rfl
              have n5 : dn 5 = false := bf fun h => f_t hd (c5 h).1
              exact opLdCs 38 _ _ rfl ((ha 38).trans (hI.s0 y0)) (HLv.out.step (hBd n5)).cells.2 (hK _ _ hI.op1)
            · obtain rfl := Option.some.inj hi
              have n5 : dn 5 = false := bf fun h => f_t hd (c3 (c4 (c5 h).2))
              obtain ⟨d0, d1, d2⟩ := HNx.out X (hBd n5)
              exact opLdC 10 ⟨wr.heap.size, 0, none⟩ _ _ _ rfl ((ha 10).trans tS) d0 d1 d2 (hK _ _ hI.op2)
            · obtain rfl := Option.some.inj hi
              have y2 := hp ⟨2, .data⟩ (by simp) rfl
              have n4 : dn 4 = false := bf fun h => f_t hd (c4 h)
              have n5 : dn 5 = false := bf fun h => f_t n4 (c5 h).2
              have n7 : dn 7 = false := bf fun h => f_t n5 (c7 h)
              refine opCallCo 40 _ _ rfl ((ha 40).trans (hI.s2 y2)) (copyOf_any _ _ x X (HRx.out X (hBd n5)).1 (HRx.out X (hBd n5)).2 HLx.out) ?_
              rintro e Y ⟨rf, rt, rfl, h1, h2, h3⟩
              exact ⟨_, rfl, hK _ _ (hI.op3 n4 n5 n7 h3 ⟨rf, rt, rfl, h1, h2⟩)⟩
            · obtain rfl := Option.some.inj hi
              have y3 := hp ⟨3, .data⟩ (by simp) rfl
              have n5 : dn 5 = false := bf fun h => f_t hd (c5 h).2
              have n7 : dn 7 = false := bf fun h => f_t n5 (c7 h)
              obtain ⟨rf, rt, e3, h1, h2⟩ := hI.e3 y3 n5
              obtain ⟨A5, d5, e5, _⟩ := h1.1.form
              obtain ⟨A6, d6, e6, _⟩ := h2.1.form
              subst e5; subst e6
              exact opBoxC 41 _ _ _ _ _ _ _ rfl ((ha 41).trans e3) (hK _ _ (hI.op4 n5 n7 (below_new _) ⟨_, _, _, rfl, World.alloc_heap_new X _, h1.step (below_new _), h2.step (below_new _)⟩))
            · obtain rfl := Option.some.inj hi
              have y1 := hp ⟨1, .data⟩ (by simp) rfl
              have y4 := hp ⟨4, .data⟩ (by simp) rfl
              have n7 : dn 7 = false := bf fun h => f_t hd (c7 h)
              obtain ⟨g, rf, rt, e4, h1, h2, h3⟩ := hI.e4 y4 hd
              have hL := HLv.out.step (hBd hd)
              exact run_append_ch (.tmp 39) (.tmp 42) rfl ((ha 39).trans (hI.s1 y1)) hL.own hL.bel.size g ((ha 42).trans e4) h1 h2.one h3.one (by have := HLv.out.own.1; have := HLn0.out; omega) (fun v' w' g1 g2 g3 => hK _ _ (hI.op5 n7 (by
                have h4 := hL.push (x := x) (V := V.drew) HLv.out.lt (fun g e => (HLv.out.own.lt g e).2) h2 h3 g1 g2 g3
                exact ⟨_, h4.1, h4.2.1, h4.2.2, own_some g1⟩)))
            · obtain rfl := Option.some.inj hi
              exact opField1 8 gb rfl ((ha 8).trans t8) (hK _ _ hI.op6)
            · obtain rfl := Option.some.inj hi
              have y5 := hp ⟨5, .data⟩ (by simp) rfl
              have y6 := hp ⟨6, .data⟩ (by simp) rfl
              obtain ⟨vals', h1, h2, h3, h4⟩ := hI.e5 y5 hd
              exact opStoreCs 44 43 ⟨gb, 1, none⟩ (val 5) vs rfl ((ha 44).trans (hI.s6 y6)) (ha 43) h4 h2 h3 (fun u => hK u _ (hI.op7 y5 (u := u) ⟨_, _, h1⟩))
          · intro dn val X hdn hI
            obtain ⟨vals', vs', hL'⟩ := hI.e7 (hdn 7 (by simp))
            have HLg2 := Lib.hid hL'
            clear hdn hI hL'
            simp only [wrS, HT0.out]
            simp only [List.setIfInBounds_toArray, List.set_cons_succ, List.set_cons_zero]
            clear t8 tS hsz0 HT0
            go_wp2_with fail
            go_roundw
            case rel => exact ⟨i + 1, _, _, by go_num, by omega, by rw [HTk.out]; exact HLg2.out⟩
            case measure => simp [intOf]; omega
        · have hi1 : ¬ (i : Int) < (len : Int) := by omega
          have HLg1 := Lib.hid (show LgI Wb gb b.first b.chs vals fv vs wr from by have h := HLi.out; rw [List.take_of_length_le (by have := HLn.out; omega)] at h; exact h)
          have HLn0 := Lib.hid (show b.chs.length ≤ 1000 from by have := HLn.out; omega)
          have HRx := Lib.hid (fun Y (h : Below wr.heap.size wr Y) => And.intro (((HF.out.step HB0.out).step HBr.out).step h) (((HT.out.step HB0.out).step HBr.out).step h))
          have HCx := Lib.hid (fun Y (h : Below wr.heap.size wr Y) => HY.out Y (HBr.out.trans (h.mono HBr.out.size)))
          have HSm2 := Lib.hid (HSm2.out (by have h1 := HLn.out; have h2 := HV0.out; omega))
          clear HLi H1 H2 HS HX HO HLg0 HY
          go_wp2_with fail
          have HLx := HLy
          obtain ⟨V, rfl⟩ : ∃ V, V = wr := ⟨_, rfl⟩
          have hxy : ∃ x, x = y := ⟨_, rfl⟩
          obtain ⟨x, hxy⟩ := hxy
          subst hxy
          refine wp_opaque ?_
          intro t0 ht0
          have hsz0 : t0.size = 62 := by rw [ht0]; rfl
          have t8 : t0.getD 8 undef = .pointer (some ⟨gb, 0, none⟩) := by rw [ht0]; rfl
          have tS : t0.getD 3 undef = .pointer (some ⟨w.heap.size + 1, 0, none⟩) := by rw [ht0]; rfl
          have HT0 := Lib.hid ht0
          clear ht0
          refine wp_region_vals [some 46, some 47, some 48, some 49, some 50, some 51, some 52, none] (CpI V.drew x (fun u X => ∃ vals', LgI Wb gb b.first (b.chs ++ [x]) vals' fv u (X.setCell ⟨gb, 1, none⟩ u) ∧ X.cell? ⟨gb, 1, none⟩ = some vs ∧ X.frozen? ⟨gb, 1, none⟩ = false ∧ ∃ A n c, u = .slice A n c) (fun X => ∃ vals' vs', LgI Wb gb b.first (b.chs ++ [x]) vals' fv vs' X) (.pointer (some ⟨gb, 1, none⟩)) vs (.agg #[.int .i64 x.yr, .slice Af yf cf, .slice At yt ct])) (by kernel_rfl) (by kernel_rfl) rfl rfl (by simp [hsz0]) (by kernel_rfl) ?_ ?_ ?_
          · intro val
            exact ⟨(fun h => nomatch h), (fun h => nomatch h), (fun h => nomatch h), (fun h => nomatch h), fun _ => Below.refl _ _, (fun h => nomatch h), (fun h => nomatch h), (fun h => nomatch h), (fun h => nomatch h)⟩
          · intro dn q o hi hd hp hc val X a ha hn hI K hK
            have hq : q < 8 := by
              have := (Array.getElem?_eq_some_iff.1 hi).1
              simpa using this
            have c1 : dn 1 = true → dn 0 = true := fun h => hc 1 _ rfl h ⟨0, .data⟩ (by simp) rfl
            have c3 : dn 3 = true → dn 2 = true := fun h => hc 3 _ rfl h ⟨2, .data⟩ (by simp) rfl
            have c4 : dn 4 = true → dn 3 = true := fun h => hc 4 _ rfl h ⟨3, .data⟩ (by simp) rfl
            have c5 : dn 5 = true → dn 1 = true ∧ dn 4 = true := fun h => ⟨hc 5 _ rfl h ⟨1, .data⟩ (by simp) rfl, hc 5 _ rfl h ⟨4, .data⟩ (by simp) rfl⟩
            have c7 : dn 7 = true → dn 5 = true := fun h => hc 7 _ rfl h ⟨5, .data⟩ (by simp) rfl
            have bf : ∀ {q : Bool}, (q = true → False) → q = false := fun {q} h => by cases q; rfl; exact (h rfl).elim
            have hBd : dn 5 = false → Below V.heap.size V X := fun n => (Below.refl V.heap.size V).drew.trans (hI.bel n)
            rcases (show q = 0 ∨ q = 1 ∨ q = 2 ∨ q = 3 ∨ q = 4 ∨ q = 5 ∨ q = 6 ∨ q = 7 by omega) with rfl | rfl | rfl | rfl | rfl | rfl | rfl | rfl
            · obtain rfl := Option.some.inj hi
              exact opField1 8 gb rfl ((ha 8).trans t8) (hK _ _ hI.op0)
            · obtain rfl := Option.some.inj hi
              have y0 := hp ⟨0, .data⟩ (by simp) rfl
              have n5 : dn 5 = false := bf fun h => f_t hd (c5 h).1
              exact opLdCs 46 _ _ rfl ((ha 46).trans (hI.s0 y0)) (HLg1.out.step (hBd n5)).cells.2 (hK _ _ hI.op1)
            · obtain rfl := Option.some.inj hi
              have n5 : dn 5 = false := bf fun h => f_t hd (c3 (c4 (c5 h).2))
              obtain ⟨d0, d1, d2⟩ := HCx.out X (hBd n5)
              exact opLdC 3 ⟨w.heap.size + 1, 0, none⟩ _ _ _ rfl ((ha 3).trans tS) d0 d1 d2 (hK _ _ hI.op2)
            · obtain rfl := Option.some.inj hi
              have y2 := hp ⟨2, .data⟩ (by simp) rfl
              have n4 : dn 4 = false := bf fun h => f_t hd (c4 h)
              have n5 : dn 5 = false := bf fun h => f_t n4 (c5 h).2
              have n7 : dn 7 = false := bf fun h => f_t n5 (c7 h)
              refine opCallCo 48 _ _ rfl ((ha 48).trans (hI.s2 y2)) (copyOf_any _ _ x X (HRx.out X (hBd n5)).1 (HRx.out X (hBd n5)).2 HLx.out) ?_
              rintro e Y ⟨rf, rt, rfl, h1, h2, h3⟩
              exact ⟨_, rfl, hK _ _ (hI.op3 n4 n5 n7 h3 ⟨rf, rt, rfl, h1, h2⟩)⟩
            · obtain rfl := Option.some.inj hi
              have y3 := hp ⟨3, .data⟩ (by simp) rfl
              have n5 : dn 5 = false := bf fun h => f_t hd (c5 h).2
              have n7 : dn 7 = false := bf fun h => f_t n5 (c7 h)
              obtain ⟨rf, rt, e3, h1, h2⟩ := hI.e3 y3 n5
              obtain ⟨A5, d5, e5, _⟩ := h1.1.form
              obtain ⟨A6, d6, e6, _⟩ := h2.1.form
              subst e5; subst e6
              exact opBoxC 49 _ _ _ _ _ _ _ rfl ((ha 49).trans e3) (hK _ _ (hI.op4 n5 n7 (below_new _) ⟨_, _, _, rfl, World.alloc_heap_new X _, h1.step (below_new _), h2.step (below_new _)⟩))
            · obtain rfl := Option.some.inj hi
              have y1 := hp ⟨1, .data⟩ (by simp) rfl
              have y4 := hp ⟨4, .data⟩ (by simp) rfl
              have n7 : dn 7 = false := bf fun h => f_t hd (c7 h)
              obtain ⟨g, rf, rt, e4, h1, h2, h3⟩ := hI.e4 y4 hd
              have hL := HLg1.out.step (hBd hd)
              exact run_append_ch (.tmp 47) (.tmp 50) rfl ((ha 47).trans (hI.s1 y1)) hL.own hL.bel.size g ((ha 50).trans e4) h1 h2.one h3.one (by have := HLg1.out.own.1; have := HLn0.out; omega) (fun v' w' g1 g2 g3 => hK _ _ (hI.op5 n7 (by
                have h4 := hL.push (x := x) (V := V.drew) HLg1.out.lt (fun g e => (HLg1.out.own.lt g e).2) h2 h3 g1 g2 g3
                exact ⟨_, h4.1, h4.2.1, h4.2.2, own_some g1⟩)))
            · obtain rfl := Option.some.inj hi
              exact opField1 8 gb rfl ((ha 8).trans t8) (hK _ _ hI.op6)
            · obtain rfl := Option.some.inj hi
              have y5 := hp ⟨5, .data⟩ (by simp) rfl
              have y6 := hp ⟨6, .data⟩ (by simp) rfl
              obtain ⟨vals', h1, h2, h3, h4⟩ := hI.e5 y5 hd
              exact opStoreCs 52 51 ⟨gb, 1, none⟩ (val 5) vs rfl ((ha 52).trans (hI.s6 y6)) (ha 51) h4 h2 h3 (fun u => hK u _ (hI.op7 y5 (u := u) ⟨_, _, h1⟩))
          · intro dn val X hdn hI
            obtain ⟨vals', vs', hL'⟩ := hI.e7 (hdn 7 (by simp))
            have HLg2 := Lib.hid hL'
            clear hdn hI hL'
            simp only [wrS, HT0.out]
            simp only [List.setIfInBounds_toArray, List.set_cons_succ, List.set_cons_zero]
            clear t8 tS hsz0 HT0
            have HBX := Lib.hid (HWc.out.2.trans (HLg2.out.bel.mono HWc.out.2.size))
            obtain ⟨k0, k1⟩ := HLg2.out.cells
            obtain ⟨Ax, mx, cx, rfl⟩ := own_some HLg2.out.own
            obtain rfl := HFv.out
            have HO2 := Lib.hid (open_any _ _ (.slice none 0 0) ⟨b.first, b.chs ++ [x]⟩ [] X HLg2.out.bk HSm2.out (InSl.nil _ _) (by simp))
            obtain ⟨er2, he2⟩ : ∃ e, openE ⟨b.first, b.chs ++ [x]⟩ [] = e := ⟨_, rfl⟩
            rw [he2] at HO2 HM
            clear he2
            go_wp2_with fail
            (with_reducible refine HO2.out.mono ?_)
            rintro e w2 ⟨u, rfl, hu0, hu1, hb⟩
            have HB2 := Lib.hid (HBX.out.trans (hb.mono HBX.out.size))
            have HLg3 := Lib.hid (HLg2.out.step hb)
            have HU := Lib.hid (And.intro hu0 hu1)
            clear hb hu0 hu1 k0 k1 HO2
            by_cases he : er2 = 0
            · subst he
              have hM := HM.out
              rw [if_pos rfl] at hM
              injection hM with hM1 hM2
              subst hM1 hM2
              clear HM
              obtain ⟨Az, cz, rfl, _⟩ := vers_sl (HU.out.1 rfl)
              have hE := below_new (w := w2) (.cells #[.slice Az (vers ⟨b.first, b.chs ++ [x]⟩).length cz, .slice Ax mx cx] 67)
              have HBw := Lib.hid (HB2.out.trans (hE.mono HB2.out.size))
              have HLg4 := Lib.hid (HLg3.out.step hE)
              clear HU hE
              obtain ⟨k0, k1⟩ := HLg4.out.cells
              obtain ⟨r0, r1⟩ := cells_two (HR.out _ HBw.out)
              have f0 := frozen_cells (HR.out _ HBw.out) 0
              have f1 := frozen_cells (HR.out _ HBw.out) 1
              have HBf := Lib.hid (HB0.out.trans (HBw.out.mono HB0.out.size))
              have HBk := Lib.hid (HLg4.out.bk_q (q := w.heap.size + 2) (by have := HWc.out.2.size; omega) (set2_grown _ _ (.slice Ar b.first.length cr) (.slice Ax mx cx)))
              go_wp2_with fail
              (try rw [Exit.noGoto_ret])
              exact bodyPost_ret (v := .tuple #[.agg #[.slice Ar b.first.length cr, .slice Ax mx cx], .int .i64 0]) (by simp [results, Try.results44, go_sem, r0, r1]) rfl ⟨_, _, rfl, HBk.out, (HBf.out.setCell (by simp; omega) _).setCell (by simp; omega) _⟩
            · have hM := HM.out
              rw [if_neg he] at hM
              injection hM with hM1 hM2
              subst hM1 hM2
              have hb3 : (er2 != 0) = true := by simpa using he
              obtain rfl := HU.out.2 he
              clear HM HU
              have hE := below_new (w := w2) (.cells #[.slice none 0 0, .slice none 0 0] 67)
              have HBw := Lib.hid (HB2.out.trans (hE.mono HB2.out.size))
              unfold nilH
              obtain ⟨r0, r1⟩ := cells_two (HR.out _ HBw.out)
              have f0 := frozen_cells (HR.out _ HBw.out) 0
              have f1 := frozen_cells (HR.out _ HBw.out) 1
              have HBf := Lib.hid (HB0.out.trans ((HBw.out).mono HB0.out.size))
              go_wp2_with fail
              (try rw [Exit.noGoto_ret])
              exact bodyPost_ret (v := .tuple #[.agg #[.slice none 0 0, .slice none 0 0], .int .i64 1]) (by simp [results, Try.results44, go_sem, r0, r1]) rfl ⟨_, _, rfl, bk_nil _, (HBf.out.setCell (by simp; omega) _).setCell (by simp; omega) _⟩
  · have hM := HM.out
    rw [if_neg he] at hM
    injection hM with hM1 hM2
    subst hM1 hM2
    have hb3 : (oE != 0) = true := by simpa using he
    obtain rfl := HU.out.2 he
    clear HM HU
    have hE := below_new (w := w1) (.cells #[.slice none 0 0, .slice none 0 0] 67)
    have HBw := Lib.hid (HB1.out.trans (hE.mono HB1.out.size))
    unfold nilH
    obtain ⟨r0, r1⟩ := cells_two (HR.out _ HBw.out)
    have f0 := frozen_cells (HR.out _ HBw.out) 0
    have f1 := frozen_cells (HR.out _ HBw.out) 1
    have HBf := Lib.hid (HB0.out.trans ((HBw.out).mono HB0.out.size))
    go_wp2_with fail
    (try rw [Exit.noGoto_ret])
    exact bodyPost_ret (v := .tuple #[.agg #[.slice none 0 0, .slice none 0 0], .int .i64 oE]) (by simp [results, Try.results44, go_sem, r0, r1]) rfl ⟨_, _, rfl, bk_nil _, (HBf.out.setCell (by simp; omega) _).setCell (by simp; omega) _⟩
end Go.Proofs.Ytplpogonkfnafaa
