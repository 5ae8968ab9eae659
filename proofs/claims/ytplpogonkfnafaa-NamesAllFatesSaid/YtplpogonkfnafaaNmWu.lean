/- NamesAllFates: what a name means. -/
import Derived.Test.YtplpogonkfnafaaNmWt
namespace Go.Proofs.Ytplpogonkfnafaa
open Go.RowKit Go.Nm

set_option maxRecDepth 100000 in
set_option maxHeartbeats 400000000 in
def afc3 (b : Bk) (aV aW aX aY aR : Int) (L : List Int) (w : World) (A1 : Option Addr) (c1 : Nat) (A2 : Option Addr) (c2 : Nat) (Au : Option Addr) (cu : Nat) (hv0 : Hid (BkV w (.agg #[.slice A1 b.first.length c1, .slice A2 b.chs.length c2]) b (.slice A2 b.chs.length c2))) (hh2 : Hid (ChSl w w.heap.size (.slice A2 b.chs.length c2) b.chs)) : Cut1 ((afc2 b aV aW aX aY aR L w A1 c1 A2 c2 Au cu hv0 hh2).P) := by
  apply Cut1.mk
  case go =>
    intro hP
    intro W0 HB0 Q'_h2 Y1 Y2 HB2 F HSb Y3 HB3 Al cl HBe HD2 len HBk3 HCh HCs HLen nl HF HNl hlen64 hnl1 HNe K_h2 wr_h3 u4_h3 u9 u10 u11 u46 u47 u48 u49 u50 u51 u52 u53 u54 u55 u56 u57 u58 u59 u60 u61 u62 u63 u64 u65 u66 u67 u68 u69 u70 u71 u72 u73 u74 u75 u76 u77 u78 u79 u80 u81 u82 u83 u84 u85 u86 u87 u88 u89 u90 u91 u92 u93 u94 u95 u96 u97 u98 u99 u100 u101 u102 u103 u104 u105 u106 u107 u108 u109 u110 u111 u112 u113 u114 u115 u116 u117 u118 u119 u120 u121 u122 u123 u124 u125 u126 u127 u128 u129 u130 u131 u132 u133 u134 u135 u136 u137 HBr hil hlt Q'_h3 K1_h3 a1_h3 K_h3 a_h3 wr u4 u13 u14 u15 u16 u17 u18 u19 u138 u139 u140 u141 u142 u143 u144 u145 u146 u147 u148 u149 u150 u151 u152 u153 u154 u155 u156 u157 u158 u159 u160 u161 u162 u163 u164 u165 u166 u167 u168 u169 u170 u171 u172 u173 u174 u175 u176 u177 u178 u179 u180 u181 u182 u183 u184 u185 u186 u187 u188 u189 u190 u191 u192 u193 u194 u195 u196 u197 u198 u199 u200 u201 u202 u203 u204 u205 u206 u207 u208 u209 u210 u211 u212 u213 u214 u215 u216 u217 u218 u219 u220 u221 u222 u223 u224 u225 u226 u227 u228 v hvl HBq k0 k1 q0 q1 q2 q3 q4 q5 hvle hvlt
    obtain ⟨⟨T, e2⟩, h1⟩ : ∃ o, throughOut b aV aX = o := ⟨_, rfl⟩
    obtain ⟨⟨M, e3⟩, h2⟩ : ∃ o, meansOut b aV aX aW = o := ⟨_, rfl⟩
    have HDm := Lib.hid (fun (g1 : e2 = 0) (g2 : e3 = 0) => af_means HD2.out (by rw [h1, g1]) (by rw [h2, g2] : meansOut b aV aX aW = (M, 0)))
    have HTh := Lib.hid (Through_any _ _ b aV aX wr (HBk3.out.step HBq.out.1) HSb.out fates_few)
    have HMe := Lib.hid (fun Y (h : Below Y3.heap.size Y3 Y) => Means_any _ _ b aV aX aW Y (HBk3.out.step h) HSb.out)
    rw [h1] at HTh
    rw [h2] at HMe
    clear h1 h2
    go_wp2_with fail
    (with_reducible refine HTh.out.mono ?_)
    rintro e Y4 ⟨⟨ut, rfl, ht⟩, hb⟩
    have HB4 := Lib.hid (show Below Y3.heap.size Y3 Y4 from HBq.out.1.trans (hb.mono HBq.out.1.size))
    have HT4 := Lib.hid ht
    obtain ⟨At, ct, rfl, _⟩ := ht.form
    clear k0 k1 q0 q1 q2 q3 q4 q5 hb HTh ht
    obtain ⟨⟨k0, k1⟩, q0, q1, q2, q3, q4, q5⟩ := HCs.out Y4 (HB3.out.trans (HB4.out.mono HB3.out.size))
    have HMe := Lib.hid (HMe.out Y4 HB4.out)
    go_wp2_with fail
    (with_reducible refine HMe.out.mono ?_)
    rintro e Y5 ⟨⟨um, rfl, hm⟩, hb⟩
    have HB5 := Lib.hid (show Below Y3.heap.size Y3 Y5 from HB4.out.trans (hb.mono HB4.out.size))
    have HT5 := Lib.hid (And.intro (HT4.out.step hb) hm)
    obtain ⟨Am, cm, rfl, _⟩ := hm.form
    clear k0 k1 q0 q1 q2 q3 q4 q5 hb HMe hm HT4
    obtain ⟨⟨k0, k1⟩, q0, q1, q2, q3, q4, q5⟩ := HCs.out Y5 (HB3.out.trans (HB5.out.mono HB3.out.size))
    have HBf := Lib.hid (HBe.out.trans (HB5.out.mono HBe.out.size))
    by_cases g1 : e2 = 0
    case neg =>
      have hB1 : (e2 != 0) = true := by simpa using g1
      clear g1 HDm
      go_wp2_with fail
      go_ret
      exact ⟨rfl, HBf.out⟩
    case pos =>
      by_cases g2 : e3 = 0
      case neg =>
        have hB1 : (e2 != 0) = false := by simpa using g1
        have hB2 : (e3 != 0) = true := by simpa using g2
        clear g2 HDm g1
        go_wp2_with fail
        go_ret
        exact ⟨rfl, HBf.out⟩
      case pos =>
        obtain ⟨kk, hkW, hkk, htl, hml, hmi, htin, hmin⟩ := HDm.out g1 g2
        rw [hkW] at HCs q1 ⊢
        clear hkW
        subst g1 g2
        have HTi := Lib.hid (show InA Y5 Y5.heap.size At T from by obtain ⟨_, _, e, _, _, h⟩ := HT5.out.1; cases e; exact h)
        have HMi := Lib.hid (show InA Y5 Y5.heap.size Am M from by obtain ⟨_, _, e, _, _, h⟩ := HT5.out.2; cases e; exact h)
        have HDa := Lib.hid (And.intro hmi (And.intro htin hmin))
        obtain ⟨nt, hnt⟩ : ∃ nt, T.length = nt := ⟨_, rfl⟩
        have HNt := Lib.hid hnt
        obtain ⟨nm, hnm⟩ : ∃ nm, M.length = nm := ⟨_, rfl⟩
        have HNm := Lib.hid hnm
        rw [hnt] at htl HT5
        rw [hnm] at hml HT5
        rw [hnt, hnm]
        have hkl : kk ≤ len := by have := HLen.out; omega
        have hkk0 : ¬ (kk : Int) < 0 := by omega
        have hkk1 : ¬ (len : Int) + 1 ≤ (kk : Int) := by omega
        have hkk2 : (kk : Int) < (len : Int) + 1 := by omega
        clear hmi htin hmin hnt hnm HDm
        go_wp2_with fail
        go_loopw [24] (fun iv wq => ∃ i : Nat, iv = .int .i64 (i : Int) ∧ i ≤ nt ∧ Below Y5.heap.size Y5 wq) (fun iv _ => nt - (intOf iv).toNat)
        case atStart => exact ⟨0, rfl, by omega, Below.refl _ _⟩
        case round =>
          obtain ⟨i, rfl, hil, hbi⟩ := hrel
          have HBi := Lib.hid (And.intro hbi (And.intro (HB5.out.trans (hbi.mono HB5.out.size)) (HB3.out.trans ((HB5.out.trans (hbi.mono HB5.out.size)).mono HB3.out.size))))
          clear k0 k1 q0 q1 q2 q3 q4 q5 hbi
          obtain ⟨⟨k0, k1⟩, q0, q1, q2, q3, q4, q5⟩ := HCs.out wr HBi.out.2.2
          by_cases hit : i < nt
          · obtain ⟨y, adt, hy, rfl, _, hcy⟩ := ((HTi.out.below HBi.out.1).mono HBi.out.1.size).at_ HNt.out hit
            obtain ⟨j, f, z, rfl, hfj, hfz, hzM⟩ := HDa.out.2.1 y (List.mem_of_getElem? hy)
            have hjl : j < nl := by have := (List.getElem?_eq_some_iff.1 hfj).1; have := HNl.out; omega
            obtain ⟨f', ad, adf, cf, hf', rfl, hrd⟩ := fl_reads HF.out HNe.out hjl
            obtain rfl : f = f' := by rw [hfj] at hf'; injection hf'
            obtain ⟨c0, c1', _⟩ := hrd wr HBi.out.2.1
            have hfl : f.length = len + 1 := by rw [HD2.out.len f (List.mem_of_getElem? hfj), HLen.out]
            rw [hfl] at c0
            have cz := c1' kk z hfz
            have hj0 : ¬ (j : Int) < 0 := by omega
            have hj1 : ¬ (nl : Int) ≤ (j : Int) := by omega
            have hj2 : (j : Int) < (nl : Int) := by omega
            have HHo := Lib.hid (holds_any _ M z wr.drew (by have h := (HT5.out.2.step HBi.out.1).step (Below.refl _ _).drew; rw [← HNm.out] at h; exact h) (by have := HNm.out; omega))
            rw [decide_eq_true hzM, HNm.out] at HHo
            clear hrd c1' hfl hfj hfz hf' hy hzM
            go_wp2_with fail
            refine wp_region_tail 45 (by kernel_rfl) (by kernel_rfl) ?_
            simp only [List.take_succ_cons, List.take_zero, List.drop_succ_cons, List.drop_zero]
            iterate 45 ((with_reducible refine wpStill_step ?_); intro K hK; go_simp; (try (refine ite_neg_of (by simp [undef] <;> assumption) ?_)); (with_reducible refine hK _ ?_); clear hK K)
            (with_reducible refine wpStill_nil ?_)
            go_wp2_with fail
            (with_reducible refine HHo.out.mono ?_)
            rintro e YZ ⟨rfl, hb⟩
            have HBz := Lib.hid (HBi.out.1.drew.trans (hb.mono HBi.out.1.drew.size))
            clear hb HHo
            go_wp2_with fail
            go_roundw
            case rel => exact ⟨i + 1, by go_num, by omega, HBz.out⟩
            case measure => simp [intOf]; omega
          · obtain rfl : nt = i := by omega
            rename_i hil_h4 wr_h4 u4_h4 Q'_h4 K1_h4 a1_h4 right1_h4 right_h4 K_h4 a_h4
            revert W0 HB0 Q'_h2 Y1 Y2 HB2 F HSb Y3 HB3 Al cl HBe HD2 len HBk3 HCh HLen nl HF HNl hlen64 hnl1 HNe K_h2 wr_h3 u4_h3 u9 u10 u11 u46 u47 u48 u49 u50 u51 u52 u53 u54 u55 u56 u57 u58 u59 u60 u61 u62 u63 u64 u65 u66 u67 u68 u69 u70 u71 u72 u73 u74 u75 u76 u77 u78 u79 u80 u81 u82 u83 u84 u85 u86 u87 u88 u89 u90 u91 u92 u93 u94 u95 u96 u97 u98 u99 u100 u101 u102 u103 u104 u105 u106 u107 u108 u109 u110 u111 u112 u113 u114 u115 u116 u117 u118 u119 u120 u121 u122 u123 u124 u125 u126 u127 u128 u129 u130 u131 u132 u133 u134 u135 u136 u137 HBr hil_h4 hlt Q'_h3 K1_h3 a1_h3 K_h3 wr_h4 u4_h4 u13 u14 u15 u16 u17 u18 u19 u138 u139 u140 u141 u142 u143 u144 u145 u146 u147 u148 u149 u150 u151 u152 u153 u154 u155 u156 u157 u158 u159 u160 u161 u162 u163 u164 u165 u166 u167 u168 u169 u170 u171 u172 u173 u174 u175 u176 u177 u178 u179 u180 u181 u182 u183 u184 u185 u186 u187 u188 u189 u190 u191 u192 u193 u194 u195 u196 u197 u198 u199 u200 u201 u202 u203 u204 u205 u206 u207 u208 u209 u210 u211 u212 u213 u214 u215 u216 u217 u218 u219 u220 u221 u222 u223 u224 u225 u226 u227 u228 v hvl HBq hvlt T M Q'_h4 K1_h4 a1_h4 hvle Y4 HB4 At ct right1_h4 Y5 HB5 Am cm right_h4 HBf kk HCs hkk HMe HTi HMi HDa nt htl HNt nm HT5 hml HNm hkl hkk2 hkk0 hkk1 K_h4 a_h4 wr u4 u256 u257 u258 u259 u260 u261 u262 u263 u264 u265 u266 u267 u268 u269 u270 u271 u272 u273 u274 u275 u276 u277 u278 u279 u280 u281 u282 u283 u284 u285 u286 u287 u288 u289 u290 u291 u292 u293 u294 u295 u296 u297 u298 u299 u300 u301 u302 u303 u304 u305 u306 u307 u308 u309 HBi k0 k1 q0 q1 q2 q3 q4 q5 hil hit
            exact hP.out
end Go.Proofs.Ytplpogonkfnafaa
