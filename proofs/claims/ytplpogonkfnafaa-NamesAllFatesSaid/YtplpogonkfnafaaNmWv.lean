/- NamesAllFates: its last loops. -/
import Derived.Test.YtplpogonkfnafaaNmWu
namespace Go.Proofs.Ytplpogonkfnafaa
open Go.RowKit Go.Nm

set_option maxRecDepth 100000 in
set_option maxHeartbeats 400000000 in
theorem afs4 (b : Bk) (aV aW aX aY aR : Int) (L : List Int) (w : World) (A1 : Option Addr) (c1 : Nat) (A2 : Option Addr) (c2 : Nat) (Au : Option Addr) (cu : Nat) (hv0 : Hid (BkV w (.agg #[.slice A1 b.first.length c1, .slice A2 b.chs.length c2]) b (.slice A2 b.chs.length c2))) (hh2 : Hid (ChSl w w.heap.size (.slice A2 b.chs.length c2) b.chs)) : (afc3 b aV aW aX aY aR L w A1 c1 A2 c2 Au cu hv0 hh2).P := by
  intro W0 HB0 Q'_h2 Y1 Y2 HB2 F HSb Y3 HB3 Al cl HBe HD2 len HBk3 HCh HLen nl HF HNl hlen64 hnl1 HNe K_h2 wr_h3 u4_h3 u9 u10 u11 u46 u47 u48 u49 u50 u51 u52 u53 u54 u55 u56 u57 u58 u59 u60 u61 u62 u63 u64 u65 u66 u67 u68 u69 u70 u71 u72 u73 u74 u75 u76 u77 u78 u79 u80 u81 u82 u83 u84 u85 u86 u87 u88 u89 u90 u91 u92 u93 u94 u95 u96 u97 u98 u99 u100 u101 u102 u103 u104 u105 u106 u107 u108 u109 u110 u111 u112 u113 u114 u115 u116 u117 u118 u119 u120 u121 u122 u123 u124 u125 u126 u127 u128 u129 u130 u131 u132 u133 u134 u135 u136 u137 HBr hil_h4 hlt Q'_h3 K1_h3 a1_h3 K_h3 wr_h4 u4_h4 u13 u14 u15 u16 u17 u18 u19 u138 u139 u140 u141 u142 u143 u144 u145 u146 u147 u148 u149 u150 u151 u152 u153 u154 u155 u156 u157 u158 u159 u160 u161 u162 u163 u164 u165 u166 u167 u168 u169 u170 u171 u172 u173 u174 u175 u176 u177 u178 u179 u180 u181 u182 u183 u184 u185 u186 u187 u188 u189 u190 u191 u192 u193 u194 u195 u196 u197 u198 u199 u200 u201 u202 u203 u204 u205 u206 u207 u208 u209 u210 u211 u212 u213 u214 u215 u216 u217 u218 u219 u220 u221 u222 u223 u224 u225 u226 u227 u228 v hvl HBq hvlt T M Q'_h4 K1_h4 a1_h4 hvle Y4 HB4 At ct right1_h4 Y5 HB5 Am cm right_h4 HBf kk HCs hkk HMe HTi HMi HDa nt htl HNt nm HT5 hml HNm hkl hkk2 hkk0 hkk1 K_h4 a_h4 wr u4 u256 u257 u258 u259 u260 u261 u262 u263 u264 u265 u266 u267 u268 u269 u270 u271 u272 u273 u274 u275 u276 u277 u278 u279 u280 u281 u282 u283 u284 u285 u286 u287 u288 u289 u290 u291 u292 u293 u294 u295 u296 u297 u298 u299 u300 u301 u302 u303 u304 u305 u306 u307 u308 u309 HBi k0 k1 q0 q1 q2 q3 q4 q5 hil hit
  go_wp2_with fail
  go_loopw [25] (fun iv wq => ∃ k : Nat, iv = .int .i64 (k : Int) ∧ k ≤ nm ∧ Below Y5.heap.size Y5 wq) (fun iv _ => nm - (intOf iv).toNat)
  case atStart => exact ⟨0, rfl, by omega, HBi.out.1⟩
  case round =>
    obtain ⟨k, rfl, hkm, hbk⟩ := hrel
    have HBk := Lib.hid (And.intro hbk (HB3.out.trans ((HB5.out.trans (hbk.mono HB5.out.size)).mono HB3.out.size)))
    clear k0 k1 q0 q1 q2 q3 q4 q5 hbk
    obtain ⟨⟨k0, k1⟩, q0, q1, q2, q3, q4, q5⟩ := HCs.out wr HBk.out.2
    by_cases hkt : k < nm
    · obtain ⟨z, adm, hz, rfl, _, hcz⟩ := ((HMi.out.below HBk.out.1).mono HBk.out.1.size).at_ HNm.out hkt
      have HZm := Lib.hid hz
      clear hz
      go_wp2_with fail
      go_loopw [26, 27] (fun sv iv wq => ∃ i : Nat, iv = .int .i64 (i : Int) ∧ i ≤ nt ∧ sv = .bool (fndB F kk z (T.take i)) ∧ Below Y5.heap.size Y5 wq) (fun _ iv _ => nt - (intOf iv).toNat)
      case atStart => exact ⟨0, rfl, by omega, by simp [fndB], HBk.out.1⟩
      case round =>
        obtain ⟨i, rfl, hil2, rfl, hbi⟩ := hrel
        have HBj := Lib.hid (And.intro hbi (And.intro (HB5.out.trans (hbi.mono HB5.out.size)) (HB3.out.trans ((HB5.out.trans (hbi.mono HB5.out.size)).mono HB3.out.size))))
        clear k0 k1 q0 q1 q2 q3 q4 q5 hcz hbi
        obtain ⟨⟨k0, k1⟩, q0, q1, q2, q3, q4, q5⟩ := HCs.out wr HBj.out.2.2
        have hcz : wr.cell? (adm.add k) = some (.int .i64 z) := by
          obtain ⟨a', ea, _, h⟩ := ((HMi.out.below HBj.out.1).mono HBj.out.1.size) k z HZm.out
          injection ea with ea
          subst ea
          exact h
        by_cases hit2 : i < nt
        · obtain ⟨y, adt, hy, rfl, _, hcy⟩ := ((HTi.out.below HBj.out.1).mono HBj.out.1.size).at_ HNt.out hit2
          obtain ⟨j, f, y', rfl, hfj, hfz, _⟩ := HDa.out.2.1 y (List.mem_of_getElem? hy)
          have hjl : j < nl := by have := (List.getElem?_eq_some_iff.1 hfj).1; have := HNl.out; omega
          obtain ⟨f', ad, adf, cf, hf', rfl, hrd⟩ := fl_reads HF.out HNe.out hjl
          obtain rfl : f = f' := by rw [hfj] at hf'; injection hf'
          obtain ⟨c0, c1', _⟩ := hrd wr HBj.out.2.1
          have hfl : f.length = len + 1 := by rw [HD2.out.len f (List.mem_of_getElem? hfj), HLen.out]
          rw [hfl] at c0
          have cy := c1' kk y' hfz
          have hj2 : (j : Int) < (nl : Int) := by omega
          have HNx := Lib.hid (fnd_next (z := z) hy hfj hfz)
          clear hrd c1' hfl hfj hfz hf' hy
          obtain ⟨st, hst⟩ : ∃ st, fndB F kk z (T.take i) = st := ⟨_, rfl⟩
          rw [hst] at HNx ⊢
          clear hst
          cases st with
          | true =>
            have HE2 := Lib.hid (show fndB F kk z (T.take (i + 1)) = true from by rw [HNx.out]; simp)
            clear HNx
            go_wp2_with fail
            refine wp_region_still_lit (by kernel_rfl) (by kernel_rfl) ?_
            iterate 20 ((with_reducible refine wpStill_step ?_); intro K hK; go_simp; (try (refine ite_neg_of (by simp [undef] <;> assumption) ?_)); (with_reducible refine hK _ ?_); clear hK K)
            (with_reducible refine wpStill_nil ?_)
            go_wp2_with fail
            go_roundw
            case rel => exact ⟨i + 1, by go_num, by omega, by rw [HE2.out], HBj.out.1.drew⟩
            case measure => simp [intOf]; omega
          | false =>
            have HE2 := Lib.hid (show fndB F kk z (T.take (i + 1)) = (y' == z) from by rw [HNx.out]; simp)
            clear HNx
            go_wp2_with fail
            refine wp_region_still_lit (by kernel_rfl) (by kernel_rfl) ?_
            iterate 20 ((with_reducible refine wpStill_step ?_); intro K hK; go_simp; (try (refine ite_neg_of (by simp [undef] <;> assumption) ?_)); (with_reducible refine hK _ ?_); clear hK K)
            (with_reducible refine wpStill_nil ?_)
            go_wp2_with fail
            go_roundw
            case rel => exact ⟨i + 1, by go_num, by omega, by rw [HE2.out], HBj.out.1.drew⟩
            case measure => simp [intOf]; omega
        · have hin : i = nt := by omega
          subst hin
          have hfd : fndB F kk z (T.take i) = true := by
            rw [List.take_of_length_le (by have := HNt.out; omega)]
            obtain ⟨q, hq, j, f, rfl, hfj, hfz⟩ := HDa.out.2.2 z (List.mem_of_getElem? HZm.out)
            unfold fndB
            rw [List.any_eq_true]
            exact ⟨(j : Int), hq, by rw [Int.toNat_natCast, hfj]; simpa using hfz⟩
          rw [hfd]
          clear hfd
          rcases (show k = 0 ∨ ∃ p, k = p + 1 from by cases k with | zero => exact .inl rfl | succ p => exact .inr ⟨p, rfl⟩) with hk0 | ⟨p, hkp⟩
          · have h0n : ¬ 0 < k := by omega
            have h0i : ¬ (0 : Int) < (k : Int) := by omega
            clear hk0
            go_wp2_with fail
            refine wp_region_still_lit (by kernel_rfl) (by kernel_rfl) ?_
            iterate 18 ((with_reducible refine wpStill_step ?_); intro K hK; go_simp; (try (refine ite_neg_of (by simp [undef] <;> assumption) ?_)); (with_reducible refine hK _ ?_); clear hK K)
            (with_reducible refine wpStill_nil ?_)
            go_wp2_with fail
            go_roundw
            case rel => exact ⟨k + 1, by go_num, by omega, HBj.out.1.drew⟩
            case measure => simp [intOf]; omega
          · have hpi : (k : Int) - 1 = (p : Int) := by omega
            have hwi : IntKind.i64.wrap ((k : Int) - 1) = (p : Int) := by rw [IntKind.wrap_i64]; omega
            have h0i : (0 : Int) < (k : Int) := by omega
            have h0n : 0 < k := by omega
            have hwp : IntKind.i64.wrap (p : Int) = (p : Int) := by rw [IntKind.wrap_i64]; omega
            have hpm : (p : Int) < (nm : Int) := by omega
            have hpn : p < nm := by omega
            obtain ⟨z2, adm2, hz2, e, _, hcz2⟩ := ((HMi.out.below HBj.out.1).mono HBj.out.1.size).at_ HNm.out hpn
            injection e with e
            subst e
            have hlt2 : z2 < z := by
              have h1 := (List.getElem?_eq_some_iff.1 hz2)
              have h2 := (List.getElem?_eq_some_iff.1 HZm.out)
              have := (List.pairwise_iff_getElem.1 HDa.out.1) p k h1.1 h2.1 (by omega)
              rw [h1.2, h2.2] at this
              exact this
            have hle2 : ¬ z ≤ z2 := by omega
            clear hz2 hkp hpn
            go_wp2_with fail
            refine wp_region_still_lit (by kernel_rfl) (by kernel_rfl) ?_
            iterate 18 ((with_reducible refine wpStill_step ?_); intro K hK; go_simp; (try (refine ite_neg_of (by simp [undef] <;> assumption) ?_)); (with_reducible refine hK _ ?_); clear hK K)
            (with_reducible refine wpStill_nil ?_)
            go_wp2_with fail
            go_roundw
            case rel => exact ⟨k + 1, by go_num, by omega, HBj.out.1.drew⟩
            case measure => simp [intOf]; omega
    · have hkn : k = nm := by omega
      subst hkn
      go_wp2_with fail
      go_ret
      exact ⟨rfl, HBe.out.trans ((HB5.out.trans (HBk.out.1.mono HB5.out.size)).mono HBe.out.size)⟩
end Go.Proofs.Ytplpogonkfnafaa
