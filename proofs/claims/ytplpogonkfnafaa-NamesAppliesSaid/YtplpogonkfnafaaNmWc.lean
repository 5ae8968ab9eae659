/- NamesChains: the walk. -/
import Derived.Test.YtplpogonkfnafaaNmWr
import Derived.Test.YtplpogonkfnafaaNmCd
namespace Go.Proofs.Ytplpogonkfnafaa
open Go.RowKit Go.Nm

/-- a change of the book, and where it lies, in whatever later world -/
theorem ch_reads {W0 : World} {A : Option Addr} {n c : Nat} {L : List Ch} (h : ChSl W0 W0.heap.size (.slice A n c) L) {i : Nat} (hi : i < n) : ∃ (x : Ch) (ad : Addr) (Af : Option Addr) (cf : Nat), L[i]? = some x ∧ A = some ad ∧
    ∀ Y, Below W0.heap.size W0 Y → Y.cell? ⟨(ad.add (i * 3)).block, (ad.add (i * 3)).off + 1, none⟩ = some (.slice Af x.fr.length cf) ∧ InSl Y Y.heap.size (.slice Af x.fr.length cf) x.fr := by
  obtain ⟨x, ad, vf, vt, hx, ha, hb, _, d1, _, hf, _⟩ := h.at_ hi
  obtain ⟨Af, cf, rfl, _⟩ := hf.form
  exact ⟨x, ad, Af, cf, hx, ha, fun Y hY => ⟨(hY.cell (p := ⟨(ad.add (i * 3)).block, _, none⟩) (by show (ad.add (i * 3)).block < W0.heap.size; rw [add_block]; exact hb)).trans d1, hf.step hY⟩⟩
set_option maxRecDepth 100000 in
set_option maxHeartbeats 16000000 in
theorem NamesChains_any (v vc u : Value) (b : Bk) (aV aW aX aY aR : Int) (L : List Int) (w : World) (hv : BkV w v b vc) (hu : InSl w w.heap.size u L) :
    Calls Try.prog 13 #[v, .agg #[.int .i64 aV, .int .i64 aW, .int .i64 aX, .int .i64 aY, .int .i64 aR, u]] w fun e w' => e = .returned (.bool true) ∧ Below w.heap.size w w' := by
  have hv0 := hv
  obtain ⟨v1, rfl, h1, h2⟩ := hv
  obtain ⟨A1, c1, rfl, _⟩ := h1.form
  obtain ⟨A2, c2, rfl⟩ := h2.form
  obtain ⟨Au, cu, rfl, _⟩ := hu.form
  obtain ⟨W0, hW0⟩ : ∃ W0, (w.alloc (.cells #[.slice A1 b.first.length c1, .slice A2 b.chs.length c2] 25)).alloc (.cells #[.int .i64 aV, .int .i64 aW, .int .i64 aX, .int .i64 aY, .int .i64 aR, .slice Au L.length cu] 27) = W0 := ⟨_, rfl⟩
  obtain ⟨hb0, hcs⟩ := args_cells w _ _ _ _ _ _ _ _ W0 hW0
  have HCs := Lib.hid hcs
  have HB0 := Lib.hid hb0
  have HBk0 := Lib.hid (hv0.step hb0)
  have HCh := Lib.hid (h2.step hb0)
  have HAw := Lib.hid (awake_any W0)
  clear hv0 h1 h2 hu hb0 hcs
  go_enter Try.func13, Try.ntmps13
  go_wp2_with fail
  (with_reducible refine HAw.out.mono ?_)
  rintro e Y1 ⟨rfl, hb⟩
  have HB1 := Lib.hid hb
  have HBk1 := Lib.hid (HBk0.out.step hb)
  have HSm := Lib.hid (small_any _ _ b Y1 HBk1.out)
  obtain ⟨⟨k0, k1⟩, q0, q1, q2, q3, q4, q5⟩ := HCs.out Y1 hb
  clear hb HBk0 HAw
  go_wp2_with fail
  (with_reducible refine HSm.out.mono ?_)
  rintro e Y2 ⟨⟨r, rfl, hs⟩, hb⟩
  have HB2 := Lib.hid (HB1.out.trans (hb.mono HB1.out.size))
  have HBk2 := Lib.hid (HBk1.out.step hb)
  have HS := Lib.hid hs
  clear k0 k1 q0 q1 q2 q3 q4 q5 hb HSm HB1 HBk1 hs
  obtain ⟨⟨k0, k1⟩, q0, q1, q2, q3, q4, q5⟩ := HCs.out Y2 HB2.out
  cases r with
  | false =>
    go_wp2_with fail
    go_ret
    exact ⟨rfl, HB0.out.trans (HB2.out.mono HB0.out.size)⟩
  | true =>
    have HR1 := Lib.hid (Chain_any _ _ b aV aX Y2 HBk2.out (HS.out rfl))
    have HR2 := Lib.hid (fun Y (hb : Below Y2.heap.size Y2 Y) => Through_any _ _ b aV aX Y (HBk2.out.step hb) (HS.out rfl) fates_few)
    have HR3 := Lib.hid (fun Y (hb : Below Y2.heap.size Y2 Y) => Fates_any _ _ b Y (HBk2.out.step hb) (HS.out rfl) fates_few)
    obtain ⟨⟨C, e1⟩, h1⟩ : ∃ o, chainOut b aV aX = o := ⟨_, rfl⟩
    obtain ⟨⟨T, e2⟩, h2⟩ : ∃ o, throughOut b aV aX = o := ⟨_, rfl⟩
    obtain ⟨⟨F, e3⟩, h3⟩ : ∃ o, fatesOut b = o := ⟨_, rfl⟩
    have HD := Lib.hid (ch_data h1 h2 h3)
    rw [h1] at HR1
    rw [h2] at HR2
    rw [h3] at HR3
    clear h1 h2 h3
    have HSb := Lib.hid (HS.out rfl)
    clear HS
    go_wp2_with fail
    (with_reducible refine HR1.out.mono ?_)
    rintro e Y3 ⟨⟨uc, rfl, hc⟩, hb⟩
    have HB3 := Lib.hid (And.intro hb (HB2.out.trans (hb.mono HB2.out.size)))
    have HC3 := Lib.hid hc
    obtain ⟨Ac, cc, rfl, _⟩ := hc.form
    clear k0 k1 q0 q1 q2 q3 q4 q5 hb HR1 hc
    obtain ⟨⟨k0, k1⟩, q0, q1, q2, q3, q4, q5⟩ := HCs.out Y3 HB3.out.2
    have HR2 := Lib.hid (HR2.out Y3 HB3.out.1)
    go_wp2_with fail
    (with_reducible refine HR2.out.mono ?_)
    rintro e Y4 ⟨⟨ut, rfl, ht⟩, hb⟩
    have HB4 := Lib.hid (And.intro (HB3.out.1.trans (hb.mono HB3.out.1.size)) (HB3.out.2.trans (hb.mono HB3.out.2.size)))
    have HC4 := Lib.hid (And.intro (HC3.out.step hb) ht)
    obtain ⟨At, ct, rfl, _⟩ := ht.form
    clear k0 k1 q0 q1 q2 q3 q4 q5 hb HR2 HB3 HC3 ht
    obtain ⟨⟨k0, k1⟩, q0, q1, q2, q3, q4, q5⟩ := HCs.out Y4 HB4.out.2
    have HR3 := Lib.hid (HR3.out Y4 HB4.out.1)
    go_wp2_with fail
    (with_reducible refine HR3.out.mono ?_)
    rintro e Y5 ⟨⟨ul, rfl, hf⟩, hb⟩
    have HB5 := Lib.hid (HB4.out.2.trans (hb.mono HB4.out.2.size))
    have HC5 := Lib.hid (And.intro (HC4.out.1.step hb) (And.intro (HC4.out.2.step hb) hf))
    obtain ⟨Al, cl, rfl⟩ := hf.form
    clear k0 k1 q0 q1 q2 q3 q4 q5 hb HR3 HB4 HC4 hf
    obtain ⟨⟨k0, k1⟩, q0, q1, q2, q3, q4, q5⟩ := HCs.out Y5 HB5.out
    have HBe := Lib.hid (HB0.out.trans (HB5.out.mono HB0.out.size))
    rcases HD.out with ⟨he, rfl, rfl⟩ | ⟨rfl, rfl, rfl⟩ | ⟨rfl, rfl, rfl, hD⟩
    · have hB0 : (e2 != 0) = true := by simpa using he
      clear he HD
      go_wp2_with fail
      go_ret
      exact ⟨rfl, HBe.out⟩
    · clear HD
      go_wp2_with fail
      go_ret
      exact ⟨rfl, HBe.out⟩
    · have HD2 := Lib.hid hD
      have HAll := Lib.hid (show InA Y5 Y5.heap.size Ac C ∧ InA Y5 Y5.heap.size At T from ⟨by obtain ⟨_, _, e, _, _, h⟩ := HC5.out.1; cases e; exact h, by obtain ⟨_, _, e, _, _, h⟩ := HC5.out.2.1; cases e; exact h⟩)
      obtain ⟨len, hlen⟩ : ∃ len, b.chs.length = len := ⟨_, rfl⟩
      have HLen := Lib.hid hlen
      rw [hlen] at HCs HCh hW0 k1 ⊢
      obtain ⟨nt, hnt⟩ : ∃ nt, T.length = nt := ⟨_, rfl⟩
      have HNt := Lib.hid hnt
      rw [hnt] at HC5 ⊢
      obtain ⟨nl, hnl⟩ : ∃ nl, F.length = nl := ⟨_, rfl⟩
      have HNl := Lib.hid hnl
      rw [hnl] at HC5 ⊢
      have hlen64 : len ≤ 64 := by have := hD.val.1; omega
      have hnt1 : nt ≤ 100000 := by have := hD.tlen; omega
      clear hD HD hlen hnt hnl hW0 HBk2
      go_wp2_with fail
      go_loopw [12] (fun iv wr => ∃ i : Nat, iv = .int .i64 (i : Int) ∧ i ≤ len ∧ Below Y5.heap.size Y5 wr) (fun iv _ => len - (intOf iv).toNat)
      case atStart => exact ⟨0, rfl, by omega, Below.refl _ _⟩
      case round =>
        obtain ⟨i, rfl, hil, hbr⟩ := hrel
        have HBr := Lib.hid hbr
        clear k0 k1 q0 q1 q2 q3 q4 q5
        obtain ⟨⟨k0, k1⟩, q0, q1, q2, q3, q4, q5⟩ := HCs.out wr (HB5.out.trans (hbr.mono HB5.out.size))
        clear hbr
        by_cases hlt : i < len
        · obtain ⟨ch, ad, Af, cf, hch, rfl, hrd⟩ := ch_reads HCh.out hlt
          have HRd := Lib.hid hrd
          have HLaw := Lib.hid (HD2.out.law i ch hch)
          have HFl := Lib.hid (HSb.out.2.2 ch (List.mem_of_getElem? hch)).1
          clear hrd hch
          go_wp2_with fail
          go_loopw [13, 14] (fun sv iv wq => ∃ k : Nat, iv = .int .i64 (k : Int) ∧ k ≤ nt ∧ sv = .bool (touchB F ch.fr i (T.take k)) ∧ Below wr.heap.size wr wq) (fun _ iv _ => nt - (intOf iv).toNat)
          case atStart => exact ⟨0, rfl, by omega, by simp [touchB], Below.refl _ _⟩
          case round =>
            obtain ⟨k, rfl, hkn, rfl, hbq⟩ := hrel
            have HBq := Lib.hid (And.intro hbq (And.intro (HBr.out.trans (hbq.mono HBr.out.size)) (HB5.out.trans ((HBr.out.trans (hbq.mono HBr.out.size)).mono HB5.out.size))))
            clear k0 k1 q0 q1 q2 q3 q4 q5 hbq
            obtain ⟨⟨k0, k1⟩, q0, q1, q2, q3, q4, q5⟩ := HCs.out wr HBq.out.2.2
            by_cases hkt : k < nt
            · obtain ⟨x, adt, hx, rfl, _, hcx⟩ := ((HAll.out.2.below HBq.out.2.1).mono HBq.out.2.1.size).at_ HNt.out hkt
              obtain ⟨j, f, rfl, hf, hfl⟩ := HD2.out.tin x (List.mem_of_getElem? hx)
              have hjl : j < nl := by have := (List.getElem?_eq_some_iff.1 hf).1; have := HNl.out; omega
              obtain ⟨adl, uf, f', rfl, _, hf', hcu, hsf⟩ := ((HC5.out.2.2.below HBq.out.2.1).mono HBq.out.2.1.size).at_ hjl
              obtain rfl : f = f' := by rw [hf] at hf'; injection hf'
              obtain ⟨Au2, cu2, rfl, _, _, hinf⟩ := hsf
              have hfl2 : f.length = len + 1 := by rw [hfl, HLen.out]
              have hif : i < len + 1 := by omega
              obtain ⟨z, adf, hz, rfl, _, hcz⟩ := hinf.at_ hfl2 hif
              have HNx := Lib.hid (touch_next (fr := ch.fr) hx hf hz)
              rw [hfl2] at hcu
              clear hx hf hf' hinf hz hfl hfl2
              obtain ⟨st, hst⟩ : ∃ st, touchB F ch.fr i (T.take k) = st := ⟨_, rfl⟩
              rw [hst] at HNx ⊢
              clear hst
              have hj0 : ¬ (j : Int) < 0 := by omega
              have hjl' : ¬ (nl : Int) ≤ (j : Int) := by omega
              have hif' : ¬ ((len + 1 : Nat) : Int) ≤ (i : Int) := by omega
              have hcf := (HRd.out wr HBq.out.2.2).1
              have HHo := Lib.hid (fun Y (hY : Below wr.heap.size wr Y) => holds_any _ ch.fr z Y ((HRd.out wr HBq.out.2.2).2.step hY) (by have := HFl.out; omega))
              cases st with
              | true =>
                have HE2 := Lib.hid (show touchB F ch.fr i (T.take (k + 1)) = true from by rw [HNx.out]; simp)
                clear HNx HHo
                go_wp2_with fail
                refine wp_region_still_lit (by kernel_rfl) (by kernel_rfl) ?_
                iterate 21 ((with_reducible refine wpStill_step ?_); intro K hK; go_simp; (try (refine ite_neg_of (by simp [undef] <;> assumption) ?_)); (with_reducible refine hK _ ?_); clear hK K)
                (with_reducible refine wpStill_nil ?_)
                go_wp2_with fail
                go_roundw
                case rel => exact ⟨k + 1, by go_num, by omega, by rw [HE2.out], HBq.out.1.drew⟩
                case measure => simp [intOf]; omega
              | false =>
                obtain ⟨q, hq⟩ : ∃ q, decide (z ∈ ch.fr) = q := ⟨_, rfl⟩
                have HE2 := Lib.hid (show touchB F ch.fr i (T.take (k + 1)) = q from by rw [HNx.out, hq]; simp)
                rw [hq] at HHo
                clear HNx hq
                go_wp2_with fail
                refine wp_region_tail 18 (by kernel_rfl) (by kernel_rfl) ?_
                simp only [List.take_succ_cons, List.take_zero, List.drop_succ_cons, List.drop_zero]
                iterate 18 ((with_reducible refine wpStill_step ?_); intro K hK; go_simp; (try (refine ite_neg_of (by simp [undef] <;> assumption) ?_)); (with_reducible refine hK _ ?_); clear hK K)
                (with_reducible refine wpStill_nil ?_)
                go_wp2_with fail
                (with_reducible refine (HHo.out wr.drew (Below.refl _ _).drew).mono ?_)
                rintro e Y9 ⟨rfl, hb⟩
                have HB9 := Lib.hid (HBq.out.1.drew.trans (hb.mono HBq.out.1.drew.size))
                clear hb HHo
                go_wp2_with fail
                go_roundw
                case rel => exact ⟨k + 1, by go_num, by omega, by rw [HE2.out], HB9.out⟩
                case measure => simp [intOf]; omega
            · have hk : k = nt := by omega
              subst hk
              have HTo := Lib.hid (show touchB F ch.fr i (T.take k) = decide ((i : Int) ∈ C) from by rw [List.take_of_length_le (by have := HNt.out; omega)]; exact HLaw.out)
              obtain ⟨q, hq⟩ : ∃ q, decide ((i : Int) ∈ C) = q := ⟨_, rfl⟩
              rw [hq] at HTo
              rw [HTo.out]
              have HHo := Lib.hid (holds_any _ C (i : Int) wr (HC5.out.1.step HBq.out.2.1) (by have := HD2.out.clen; have := HLen.out; omega))
              rw [hq] at HHo
              clear hq HTo
              go_wp2_with fail
              (with_reducible refine HHo.out.mono ?_)
              rintro e Y9 ⟨rfl, hb⟩
              have HB9 := Lib.hid (HBq.out.2.1.trans (hb.mono HBq.out.2.1.size))
              clear hb HHo
              cases q <;>
              · go_wp2_with fail
                go_roundw
                case rel => exact ⟨i + 1, by go_num, by omega, HB9.out⟩
                case measure => simp [intOf]; omega
        · have hi : i = len := by omega
          subst hi
          have hcl : C.length ≤ i := by have := HD2.out.clen; have := HLen.out; omega
          go_wp2_with fail
          go_ret
          exact ⟨rfl, HBe.out.trans (HBr.out.mono HBe.out.size)⟩
end Go.Proofs.Ytplpogonkfnafaa
