/- count, rich. -/
import Derived.Test.YtplpogonkfnafaaNmX
namespace Go.Proofs.Ytplpogonkfnafaa
open Go.RowKit Go.Nm Go.Maps

def WfB (b : Bk) : Prop := (∀ x ∈ b.first, 1 ≤ x ∧ x ≤ 65535) ∧ ∀ c ∈ b.chs, (∀ x ∈ c.fr, 1 ≤ x ∧ x ≤ 65535) ∧ ∀ x ∈ c.to, 1 ≤ x ∧ x ≤ 65535
theorem wf_nm {x : Int} (h : 1 ≤ x ∧ x ≤ 65535) : (Lit.int .i64 x).wf = true := WalkArith.wf_i64 (by omega)
theorem add_zero' (a : Addr) : a.add 0 = a := by simp [Addr.add]
theorem grown_blk {X Y : World} {mb i : Nat} {o : Obj} (hg : X.grownBy Y (some mb)) (h : X.heap[i]? = some o) (hne : i ≠ mb) : Y.heap[i]? = some o :=
  (hg.block i (Array.getElem?_eq_some_iff.1 h).1 (fun e => hne (by injection e))).trans h
theorem takeF_wf : ∀ (l : List Int) (p : (Int → Int) × Int), (Lit.int .i64 p.2).wf = true → (Lit.int .i64 (l.foldl takeS p).2).wf = true
  | [], _, h => h
  | x :: l, p, _ => takeF_wf l (takeS p x) (wrap64_wf _)
theorem nm_new {L : List Int} {k : Nat} {x : Int} (hi : Inc L) (h : L[k]? = some x) : x ∉ L.take k := by
  intro hm
  obtain ⟨j, hj, e⟩ := List.getElem_of_mem hm
  have hj' : j < k := by simp at hj; omega
  have hjL : L[j]? = some x := by rw [← e]; simp
  have hk := (List.getElem?_eq_some_iff.1 h).1
  have h1 : L[j]'(by omega) = x := (List.getElem?_eq_some_iff.1 hjL).2
  have h2 : L[k] = x := (List.getElem?_eq_some_iff.1 h).2
  have := (List.pairwise_iff_getElem.1 hi) j k (by omega) hk hj'
  omega
set_option maxRecDepth 100000 in
set_option maxHeartbeats 16000000 in
theorem count_any (v vc : Value) (b : Bk) (w : World) (hv : HsV w v b vc) (hs : Sm b) (h0 : (vers b)[0]? = some b.first) (hi : Inc b.first) (hw : WfB b) :
    Calls Try.prog 72 #[v] w fun e w' => e = .returned (.int .i64 (cnt b)) ∧ Below w.heap.size w w' := by
  obtain ⟨vs, rfl, h1, h2⟩ := hv
  obtain ⟨Av, cv, rfl⟩ := h1.form
  obtain ⟨A2, c2, rfl⟩ := h2.form
  have hvl : 0 < (vers b).length := (List.getElem?_eq_some_iff.1 h0).1
  obtain ⟨ad0, u0, L0, rfl, hbd0, hL0, hc0, hin0⟩ := h1.at_ hvl
  obtain rfl : L0 = b.first := by rw [h0] at hL0; injection hL0 with e; exact e.symm
  obtain ⟨A1, c1, rfl, _⟩ := hin0.form
  have hb0 := below_new (w := w) (.cells #[.slice (some ad0) (vers b).length cv, .slice A2 b.chs.length c2] 67)
  have HB0 := Lib.hid hb0
  have hN0 := World.alloc_heap_new w (.cells #[.slice (some ad0) (vers b).length cv, .slice A2 b.chs.length c2] 67)
  have HMS0 := Lib.hid (MS.made w _ hb0)
  obtain ⟨W2, hW2⟩ : ∃ W2, (w.alloc (.cells #[.slice (some ad0) (vers b).length cv, .slice A2 b.chs.length c2] 67)).alloc (.map #[] 0) = W2 := ⟨_, rfl⟩
  have HBox := Lib.hid (show W2.heap[w.heap.size]? = some (.cells #[.slice (some ad0) (vers b).length cv, .slice A2 b.chs.length c2] 67) from by rw [← hW2]; exact ((below_new _).block _ (by simp)).trans hN0)
  have HF := Lib.hid (And.intro hin0 hi)
  have HCh := Lib.hid (And.intro h2 hs)
  have HWf := Lib.hid hw
  rw [World.size_alloc] at HMS0
  rw [hW2] at HMS0
  obtain ⟨k0, k1⟩ := cells_two HBox.out
  have hc0' : W2.cell? ad0 = some (.slice A1 b.first.length c1) := (HMS0.out.bel.cell hbd0).trans (by rw [add_zero'] at hc0; exact hc0)
  obtain ⟨R, hR⟩ : ∃ R, cnt b = R := ⟨_, rfl⟩
  rw [hR]
  have HR := Lib.hid hR
  clear h1 h2 hs hb0 hN0 hin0 hi hw hR hc0 h0 hL0
  generalize hlf : b.first.length = nf at *
  generalize hlc : b.chs.length = len at *
  generalize hvn : (vers b).length = nv at *
  have HLf := Lib.hid hlf
  have HLc := Lib.hid hlc
  clear hlf hlc hvn
  have hnf : nf ≤ 1000 := by have := HLf.out; have := HCh.out.2.1; omega
  have hnc : len ≤ 1000 := by have := HLc.out; have := HCh.out.2.2.1; omega
  have hmm := @run_makeMap Try.prog
  go_enter Try.func72, Try.ntmps72
  go_wp2_with fail
  go_loopw [20] (fun iv wr => ∃ k : Nat, iv = .int .i64 (k : Int) ∧ k ≤ nf ∧ MS w (w.heap.size + 1) (b.first.take k) wr ∧ wr.heap[w.heap.size]? = some (.cells #[.slice (some ad0) nv cv, .slice A2 len c2] 67)) (fun iv _ => nf - (intOf iv).toNat)
  case atStart => exact ⟨0, rfl, by omega, by simpa using HMS0.out, HBox.out⟩
  case round =>
    obtain ⟨k, rfl, hkn, hM, hbx⟩ := hrel
    have HM := Lib.hid hM
    have HBx := Lib.hid hbx
    clear hM hbx
    by_cases hlt : k < nf
    · obtain ⟨x, ad, hx, rfl, hbd, hcx⟩ := ((show InA w w.heap.size A1 b.first from by obtain ⟨_, _, e, _, _, h⟩ := HF.out.1; cases e; exact h).below HM.out.bel).at_ HLf.out hlt
      have HX := Lib.hid (And.intro hx (And.intro (wf_nm (HWf.out.1 x (List.mem_of_getElem? hx))) (nm_new HF.out.2 hx)))
      have HLt := Lib.hid (show (b.first.take k).length < maxLen from by have := HLf.out; have := HCh.out.2.1; unfold maxLen; simp; omega)
      clear hx
      go_wp2_with (at_mapUpdate; refine wpList_put_ms rfl _ _ _ rfl HM.out HLt.out rfl x rfl HX.out.2.1 HX.out.2.2 rfl ?_; intro w3 hm3 hg3)
      have HM3 := Lib.hid (show MS w (w.heap.size + 1) (b.first.take (k + 1)) w3 ∧ w3.heap[w.heap.size]? = some (.cells #[.slice (some ad0) nv cv, .slice A2 len c2] 67) from ⟨by rw [take_next HX.out.1]; exact hm3, grown_blk hg3 HBx.out (by omega)⟩)
      clear hm3 hg3
      go_wp2_with fail
      go_roundw
      case rel => exact ⟨k + 1, by go_num, by omega, HM3.out.1, HM3.out.2⟩
      case measure => simp [intOf]; omega
    · obtain rfl : k = nf := by omega
      have HM2 := Lib.hid (show MS w (w.heap.size + 1) b.first wr from by have h := HM.out; rw [List.take_of_length_le (by have := HLf.out; omega)] at h; exact h)
      clear HM
      obtain ⟨k2, k3⟩ := cells_two HBx.out
      go_wp2_with (at_len; refine wpList_len_ms rfl _ rfl HM2.out rfl k HLf.out ?_)
      have HMI := Lib.hid HM2.out.mi
      have HR1 := Lib.hid (show cntF (b.chs.drop 0) (fun j => if j ∈ b.first then 1 else 0, (k : Int)) = R from by have h := HR.out; unfold cnt at h; rw [HLf.out] at h; exact h)
      have HN1 := Lib.hid (show b.first.length ≤ 1000 + 1000 * 0 from by have := HLf.out; omega)
      clear HM2 HR HBx k0 k1 k2 k3 hc0' HMS0 HBox hlt
      generalize hF0 : (fun j : Int => if j ∈ b.first then (1 : Int) else 0) = f0 at *
      clear hF0
      go_loopw [6, 32] (fun tv iv wq => ∃ (q n : Nat) (t : Int) (f : Int → Int), iv = .int .i64 (q : Int) ∧ q ≤ len ∧ tv = .int .i64 t ∧ MI w (w.heap.size + 1) n f wq ∧ n ≤ 1000 + 1000 * q ∧ cntF (b.chs.drop q) (f, t) = R) (fun _ iv _ => len - (intOf iv).toNat)
      case atStart => exact ⟨0, _, _, _, rfl, by omega, rfl, HMI.out, HN1.out, HR1.out⟩
      case round =>
        obtain ⟨q, n, t, f, rfl, hqn, rfl, hM, hn, hr⟩ := hrel
        have HM := Lib.hid hM
        have HR2 := Lib.hid hr
        clear hM hr HMI HR1 HN1
        by_cases hlt : q < len
        · obtain ⟨c, ad, vf, vt, hc, rfl, hbd, d0, d1, d2, hf, ht⟩ := (HCh.out.1.below HM.out.bel).at_ hlt
          obtain ⟨Af, cf, rfl, _⟩ := hf.form
          obtain ⟨At, ct, rfl, _⟩ := ht.form
          have HNx := Lib.hid (cntF_next hc (f, t))
          have HSx := Lib.hid (HCh.out.2.2.2 c (List.mem_of_getElem? hc))
          have HWx := Lib.hid (HWf.out.2 c (List.mem_of_getElem? hc))
          have HFr := Lib.hid (show InA wr w.heap.size Af c.fr from by obtain ⟨_, _, e, _, _, h⟩ := hf; cases e; exact h)
          have HTo := Lib.hid (show InA wr w.heap.size At c.to from by obtain ⟨_, _, e, _, _, h⟩ := ht; cases e; exact h)
          clear hf ht hc hbd
          have hgt : 2048 < t ∨ ¬ 2048 < t := by omega
          rcases hgt with hgt | hgt
          · have HE := Lib.hid (show R = t from by rw [← HR2.out, HNx.out, if_pos hgt])
            have HB2 := Lib.hid (HM.out.bel.alloc HM.out.bel.size (.cells #[.int .i64 c.yr, .slice Af c.fr.length cf, .slice At c.to.length ct] 52))
            clear HNx HR2 HM
            go_wp2_with fail
            go_ret
            exact ⟨by rw [HE.out]; rfl, HB2.out⟩
          · have HR3 := Lib.hid (show cntF (b.chs.drop (q + 1)) (chS (f, t) c) = R from by rw [← HR2.out, HNx.out, if_neg hgt])
            have HN8 := Lib.hid (World.alloc_heap_new wr (.cells #[.int .i64 c.yr, .slice Af c.fr.length cf, .slice At c.to.length ct] 52))
            have HM8 := Lib.hid (HM.out.alloc (.cells #[.int .i64 c.yr, .slice Af c.fr.length cf, .slice At c.to.length ct] 52))
            have hmb : w.heap.size + 1 < wr.heap.size := by obtain ⟨_, h, _⟩ := HM.out.map; exact h.lt
            have HFr8 := Lib.hid ((HFr.out.below (((below_new (.cells #[.int .i64 c.yr, .slice Af c.fr.length cf, .slice At c.to.length ct] 52))).mono HM.out.bel.size)))
            have HTo8 := Lib.hid (HTo.out.below (((below_new (.cells #[.int .i64 c.yr, .slice Af c.fr.length cf, .slice At c.to.length ct] 52))).mono HM.out.bel.size))
            clear HNx HR2 HFr HTo
            generalize hlf2 : c.fr.length = nfr at *
            generalize hlt2 : c.to.length = nto at *
            have HL2 := Lib.hid (And.intro hlf2 hlt2)
            clear hlf2 hlt2 HM
            obtain ⟨W8, hW8⟩ : ∃ W8, wr.alloc (.cells #[.int .i64 c.yr, .slice Af nfr cf, .slice At nto ct] 52) = W8 := ⟨_, rfl⟩
            rw [hW8] at HN8 HM8 HFr8 HTo8
            obtain ⟨x0, x1, x2⟩ := cells_three HN8.out
            go_wp2_with fail
            clear hW8 d0 d1 d2
            have hne8 : wr.heap.size ≠ w.heap.size + 1 := by omega
            have hg8 : wr.heap.size < W8.heap.size := (Array.getElem?_eq_some_iff.1 HN8.out).1
            generalize wr.heap.size = g8 at *
            have hnfr : nfr ≤ 1000 := by have := HL2.out; have := HSx.out; omega
            have hnto : nto ≤ 1000 := by have := HL2.out; have := HSx.out; omega
            go_loopw [9, 41] (fun gv iv wq => ∃ j : Nat, iv = .int .i64 (j : Int) ∧ j ≤ nfr ∧ gv = .int .i64 (takeF f (c.fr.take j)).2 ∧ MI w (w.heap.size + 1) n (takeF f (c.fr.take j)).1 wq ∧ Below w.heap.size W8 wq ∧ wq.heap[g8]? = some (.cells #[.int .i64 c.yr, .slice Af nfr cf, .slice At nto ct] 52)) (fun _ iv _ => nfr - (intOf iv).toNat)
            case atStart => exact ⟨0, rfl, by omega, rfl, HM8.out, Below.refl _ _, HN8.out⟩
            case round =>
              obtain ⟨j, rfl, hjn, rfl, hM, hb8, hcl⟩ := hrel
              have HMj := Lib.hid hM
              have HBj := Lib.hid (And.intro hb8 hcl)
              clear hM hb8 hcl
              by_cases hlt3 : j < nfr
              · obtain ⟨x, ad3, hx, rfl, hbd3, hcx⟩ := (HFr8.out.below HBj.out.1).at_ HL2.out.1 hlt3
                have HX := Lib.hid (And.intro (takeF_next (f := f) hx) (wf_nm (HWx.out.1 x (List.mem_of_getElem? hx))))
                clear hx hbd3
                generalize takeF f (c.fr.take j) = p at *
                obtain ⟨pf, pg⟩ := p
                dsimp only
                go_wp2_with (first | (at_lookup; refine wpList_lookup_mi rfl _ _ rfl HMj.out rfl x rfl HX.out.2 ?_) | (at_delete; refine wpList_del_mi rfl _ _ rfl HMj.out rfl x rfl HX.out.2 ?_; intro w4 hm4 hg4))
                have HM4 := Lib.hid (show MI w (w.heap.size + 1) n (takeF f (c.fr.take (j + 1))).1 w4 ∧ Below w.heap.size W8 w4 ∧ w4.heap[g8]? = some (.cells #[.int .i64 c.yr, .slice (some ad3) nfr cf, .slice At nto ct] 52) from
                  ⟨by rw [HX.out.1]; exact hm4, HBj.out.1.grown hg4 HMj.out.bel.size (fun k e => by cases e; omega), grown_blk hg4 HBj.out.2 hne8⟩)
                have HE4 := Lib.hid (show (takeF f (c.fr.take (j + 1))).2 = wrap64 (pg + pf x) from by rw [HX.out.1]; rfl)
                clear hm4 hg4
                go_wp2_with fail
                go_roundw
                case rel => exact ⟨j + 1, by go_num, by omega, by rw [HE4.out], HM4.out.1, HM4.out.2.1, HM4.out.2.2⟩
                case measure => simp [intOf]; omega
              · obtain rfl : j = nfr := by omega
                have HMf := Lib.hid (show takeF f (c.fr.take j) = takeF f c.fr from by rw [List.take_of_length_le (by have := HL2.out.1; omega)])
                obtain ⟨p, hp⟩ : ∃ p, takeF f c.fr = p := ⟨_, rfl⟩
                have HP := Lib.hid hp
                rw [HMf.out, hp] at HMj ⊢
                obtain ⟨pf, pg⟩ := p
                clear hp HMf HFr8 HM8 HN8
                dsimp only at HMj ⊢
                have hpg : (Lit.int .i64 pg).wf = true := by have h := takeF_wf c.fr (f, 0) (show (Lit.int .i64 0).wf = true by decide); rw [show c.fr.foldl takeS (f, 0) = takeF f c.fr from rfl, HP.out] at h; exact h
                obtain ⟨y0, y1, y2⟩ := cells_three HBj.out.2
                go_wp2_with fail
                have HPg := Lib.hid hpg
                have HBk := Lib.hid HBj.out
                have HMk := Lib.hid HMj.out
                clear hpg HBj HMj y0 y1 y2 x0 x1 x2
                go_loopw [56] (fun iv wt => ∃ i : Nat, iv = .int .i64 (i : Int) ∧ i ≤ nto ∧ MI w (w.heap.size + 1) (n + i) (putF pf pg (c.to.take i)) wt ∧ Below w.heap.size W8 wt ∧ wt.heap[g8]? = some (.cells #[.int .i64 c.yr, .slice Af j cf, .slice At nto ct] 52)) (fun iv _ => nto - (intOf iv).toNat)
                case atStart => exact ⟨0, rfl, by omega, HMk.out, HBk.out.1, HBk.out.2⟩
                case round =>
                  obtain ⟨i, rfl, hin, hM, hb8, hcl⟩ := hrel
                  have HMi := Lib.hid hM
                  have HBi := Lib.hid (And.intro hb8 hcl)
                  clear hM hb8 hcl HMk HBk
                  by_cases hlt4 : i < nto
                  · obtain ⟨x, ad4, hx, rfl, hbd4, hcx⟩ := (HTo8.out.below HBi.out.1).at_ HL2.out.2 hlt4
                    have HX := Lib.hid (And.intro (putF_next (f := pf) (c := pg) hx) (wf_nm (HWx.out.2 x (List.mem_of_getElem? hx))))
                    have hnm : n + i < maxLen := by unfold maxLen; omega
                    clear hx hbd4
                    go_wp2_with (at_mapUpdate; refine wpList_put_mi rfl _ _ _ rfl HMi.out hnm rfl x rfl HX.out.2 pg rfl HPg.out ?_; intro w4 hm4 hg4)
                    have HM4 := Lib.hid (show MI w (w.heap.size + 1) (n + i + 1) (putF pf pg (c.to.take (i + 1))) w4 ∧ Below w.heap.size W8 w4 ∧ w4.heap[g8]? = some (.cells #[.int .i64 c.yr, .slice Af j cf, .slice (some ad4) nto ct] 52) from
                      ⟨by rw [HX.out.1]; exact hm4, HBi.out.1.grown hg4 HMi.out.bel.size (fun k e => by cases e; omega), grown_blk hg4 HBi.out.2 hne8⟩)
                    clear hm4 hg4
                    go_wp2_with fail
                    go_roundw
                    case rel => exact ⟨i + 1, by go_num, by omega, HM4.out.1, HM4.out.2.1, HM4.out.2.2⟩
                    case measure => simp [intOf]; omega
                  · obtain rfl : i = nto := by omega
                    have HM5 := Lib.hid (show MI w (w.heap.size + 1) (n + i) (putF pf pg c.to) wr from by have h := HMi.out; rw [List.take_of_length_le (by have := HL2.out.2; omega)] at h; exact h)
                    have HS5 := Lib.hid (show chS (f, t) c = (putF pf pg c.to, wrap64 (t + wrap64 (pg * ((i : Int) - 1)))) from by unfold chS; dsimp only; rw [HP.out, HL2.out.2])
                    obtain ⟨y0, y1, y2⟩ := cells_three HBi.out.2
                    clear HMi HBi HTo8
                    go_wp2_with fail
                    go_roundw
                    case rel => exact ⟨q + 1, n + i, _, _, by go_num, by omega, rfl, HM5.out, by omega, by rw [← HS5.out]; exact HR3.out⟩
                    case measure => simp [intOf]; omega
        · obtain rfl : q = len := by omega
          have HE := Lib.hid (show R = t from by
            have h := HR2.out
            rw [List.drop_eq_nil_of_le (by have := HLc.out; omega)] at h
            exact h.symm)
          have HB2 := Lib.hid HM.out.bel
          clear HR2 HM
          go_wp2_with fail
          go_ret
          exact ⟨by rw [HE.out]; rfl, HB2.out⟩
def rich (b : Bk) : Bool := decide (2048 < cnt b)
set_option maxRecDepth 100000 in
set_option maxHeartbeats 4000000 in
theorem rich_any (v vc : Value) (b : Bk) (w : World) (hv : HsV w v b vc) (hs : Sm b) (h0 : (vers b)[0]? = some b.first) (hi : Inc b.first) (hw : WfB b) :
    Calls Try.prog 68 #[v] w fun e w' => e = .returned (.bool (rich b)) ∧ Below w.heap.size w w' := by
  have hv0 := hv
  obtain ⟨vs, rfl, h1, h2⟩ := hv
  obtain ⟨Av, cv, rfl⟩ := h1.form
  obtain ⟨A2, c2, rfl⟩ := h2.form
  have hb0 := below_new (w := w) (.cells #[.slice Av (vers b).length cv, .slice A2 b.chs.length c2] 67)
  have hN0 := World.alloc_heap_new w (.cells #[.slice Av (vers b).length cv, .slice A2 b.chs.length c2] 67)
  have HB0 := Lib.hid hb0
  have HC := Lib.hid (count_any _ _ b _ (hv0.step hb0) hs h0 hi hw)
  obtain ⟨k0, k1⟩ := cells_two hN0
  have HR := Lib.hid (show rich b = decide (2048 < cnt b) from rfl)
  clear hv0 h1 h2 hs hb0 hN0 h0 hi hw
  generalize rich b = r at *
  generalize cnt b = t at *
  by_cases ht : 2048 < t
  · rw [decide_eq_true ht] at HR
    obtain rfl := HR.out
    go_enter Try.func68, Try.ntmps68
    go_wp2_with fail
    (with_reducible refine HC.out.mono ?_)
    rintro e w1 ⟨rfl, hb⟩
    have HB := Lib.hid (HB0.out.trans (hb.mono HB0.out.size))
    clear hb
    go_wp2_with fail
    go_ret
    exact ⟨rfl, HB.out⟩
  · rw [decide_eq_false ht] at HR
    obtain rfl := HR.out
    go_enter Try.func68, Try.ntmps68
    go_wp2_with fail
    (with_reducible refine HC.out.mono ?_)
    rintro e w1 ⟨rfl, hb⟩
    have HB := Lib.hid (HB0.out.trans (hb.mono HB0.out.size))
    clear hb
    go_wp2_with fail
    go_ret
    exact ⟨by simp [Array.getD, ht], HB.out⟩
theorem versF_zero (a : List Int) (y : Int) (l : List Ch) : (versF a y l)[0]? = some a := by
  cases l with
  | nil => rfl
  | cons x l => unfold versF; split <;> rfl
theorem val_ver {b : Bk} (h : Val b) : Ver b.first := by
  have h2 := h.2
  unfold vers at h2
  split at h2
  · assumption
  · simp at h2
theorem val_first {b : Bk} (h : Val b) : (vers b)[0]? = some b.first := by
  unfold vers; rw [if_pos (val_ver h)]; exact versF_zero _ _ _
theorem val_wf {b : Bk} (h : Val b) : WfB b := by
  refine ⟨(val_ver h).2.2.2, fun c hc => ?_⟩
  obtain ⟨k, hk, e⟩ := List.getElem_of_mem hc
  obtain ⟨A, y, h1, h2, h3⟩ := vers_step h (by rw [← e]; exact List.getElem?_eq_getElem hk : b.chs[k]? = some c)
  exact ⟨h2.2.2.1.2.2.2, h2.2.2.2.1.2.2.2⟩
/-- .. of a valid book -/
theorem rich_val (v vc : Value) (b : Bk) (w : World) (hv : HsV w v b vc) (hs : Sm b) (h : Val b) :
    Calls Try.prog 68 #[v] w fun e w' => e = .returned (.bool (rich b)) ∧ Below w.heap.size w w' :=
  rich_any v vc b w hv hs (val_first h) (val_ver h).2.2.1 (val_wf h)
end Go.Proofs.Ytplpogonkfnafaa
