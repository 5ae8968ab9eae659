/- NamesAllFates: the walk up to its first loop. -/
import Derived.Test.YtplpogonkfnafaaNmWh
namespace Go.Proofs.Ytplpogonkfnafaa
open Go.RowKit Go.Nm

set_option maxRecDepth 100000 in
set_option maxHeartbeats 400000000 in
def afc1 (b : Bk) (aV aW aX aY aR : Int) (L : List Int) (w : World) (A1 : Option Addr) (c1 : Nat) (A2 : Option Addr) (c2 : Nat) (Au : Option Addr) (cu : Nat) (hv0 : Hid (BkV w (.agg #[.slice A1 b.first.length c1, .slice A2 b.chs.length c2]) b (.slice A2 b.chs.length c2))) (hh2 : Hid (ChSl w w.heap.size (.slice A2 b.chs.length c2) b.chs)) : Cut2 (Calls Try.prog 7 #[.agg #[.slice A1 b.first.length c1, .slice A2 b.chs.length c2], .agg #[.int .i64 aV, .int .i64 aW, .int .i64 aX, .int .i64 aY, .int .i64 aR, .slice Au L.length cu]] w fun e w' => e = .returned (.bool true) ∧ Below w.heap.size w w') := by
  apply Cut2.mk
  intro hP hQ
  obtain ⟨W0, hW0⟩ : ∃ W0, (w.alloc (.cells #[.slice A1 b.first.length c1, .slice A2 b.chs.length c2] 25)).alloc (.cells #[.int .i64 aV, .int .i64 aW, .int .i64 aX, .int .i64 aY, .int .i64 aR, .slice Au L.length cu] 27) = W0 := ⟨_, rfl⟩
  obtain ⟨hb0, hcs⟩ := args_cells w _ _ _ _ _ _ _ _ W0 hW0
  have HCs := Lib.hid hcs
  have HB0 := Lib.hid hb0
  have HBk0 := Lib.hid (hv0.out.step hb0)
  have HCh := Lib.hid (hh2.out.step hb0)
  have HAw := Lib.hid (awake_any W0)
  clear hb0 hcs
  go_enter Try.func7, Try.ntmps7
  go_wp2_with fail
  (with_reducible refine HAw.out.mono ?_)
  rintro e Y1 ⟨rfl, hb⟩
  have HB1 := Lib.hid hb
  have HBk1 := Lib.hid (HBk0.out.step hb)
  have HSm := Lib.hid (small_any _ _ b Y1 HBk1.out)
  obtain ⟨⟨k0, k1⟩, q0, q1, q2, q3, q4, q5⟩ := HCs.out Y1 hb
  clear hb HBk0 HAw
  go_wp2_with fail
  (with_reducible refine HSm.out.mono ?_)
  rintro e Y2 ⟨⟨r, rfl, hs⟩, hb⟩
  have HB2 := Lib.hid (HB1.out.trans (hb.mono HB1.out.size))
  have HBk2 := Lib.hid (HBk1.out.step hb)
  have HS := Lib.hid hs
  clear k0 k1 q0 q1 q2 q3 q4 q5 hb HSm HB1 HBk1 hs
  obtain ⟨⟨k0, k1⟩, q0, q1, q2, q3, q4, q5⟩ := HCs.out Y2 HB2.out
  cases r with
  | false =>
    go_wp2_with fail
    go_ret
    exact ⟨rfl, HB0.out.trans (HB2.out.mono HB0.out.size)⟩
  | true =>
    have HR1 := Lib.hid (Fates_any _ _ b Y2 HBk2.out (HS.out rfl) fates_few)
    obtain ⟨⟨F, e1⟩, h1⟩ : ∃ o, fatesOut b = o := ⟨_, rfl⟩
    have HD := Lib.hid (af_data h1)
    rw [h1] at HR1
    clear h1
    have HSb := Lib.hid (HS.out rfl)
    clear HS
    go_wp2_with fail
    (with_reducible refine HR1.out.mono ?_)
    rintro e Y3 ⟨⟨ul, rfl, hf⟩, hb⟩
    have HB3 := Lib.hid (HB2.out.trans (hb.mono HB2.out.size))
    have HBk3 := Lib.hid (HBk2.out.step hb)
    have HF := Lib.hid hf
    obtain ⟨Al, cl, rfl⟩ := hf.form
    clear k0 k1 q0 q1 q2 q3 q4 q5 hb HR1 hf HBk2
    obtain ⟨⟨k0, k1⟩, q0, q1, q2, q3, q4, q5⟩ := HCs.out Y3 HB3.out
    have HBe := Lib.hid (HB0.out.trans (HB3.out.mono HB0.out.size))
    rcases HD.out with ⟨he, rfl⟩ | ⟨rfl, hD⟩
    · have hB0 : (e1 != 0) = true := by simpa using he
      clear he HD
      go_wp2_with fail
      go_ret
      exact ⟨rfl, HBe.out⟩
    · have HD2 := Lib.hid hD
      obtain ⟨len, hlen⟩ : ∃ len, b.chs.length = len := ⟨_, rfl⟩
      have HLen := Lib.hid hlen
      rw [hlen] at HCs HCh hW0 k1 HBk3 ⊢
      obtain ⟨nl, hnl⟩ : ∃ nl, F.length = nl := ⟨_, rfl⟩
      have HNl := Lib.hid hnl
      rw [hnl] at HF ⊢
      have hlen64 : len ≤ 64 := by have := hD.val.1; omega
      have hnl1 : nl ≤ 100000 := by have := hD.few; omega
      have HNe := Lib.hid (show ∀ f ∈ F, f ≠ [] from fun f hf h => by have := hD.len f hf; rw [h] at this; simp at this)
      clear hD HD hlen hnl hW0
      go_wp2_with fail
      go_loopw [8] (fun iv wr => ∃ i : Nat, iv = .int .i64 (i : Int) ∧ i ≤ nl ∧ Below Y3.heap.size Y3 wr) (fun iv _ => nl - (intOf iv).toNat)
      case atStart => exact ⟨0, rfl, by omega, Below.refl _ _⟩
      case round =>
        obtain ⟨i, rfl, hil, hbr⟩ := hrel
        have HBr := Lib.hid (And.intro hbr (HB3.out.trans (hbr.mono HB3.out.size)))
        clear k0 k1 q0 q1 q2 q3 q4 q5 hbr
        obtain ⟨⟨k0, k1⟩, q0, q1, q2, q3, q4, q5⟩ := HCs.out wr HBr.out.2
        by_cases hlt : i < nl
        · rename_i Q'_h1 K_h1 a_h1
          revert W0 HB0 Q'_h1 Y1 Y2 HB2 F HSb Y3 HB3 Al cl HBe HD2 len HBk3 HCh HCs HLen nl HF HNl hlen64 hnl1 HNe K_h1 a_h1 wr u4 u9 u10 u11 u46 u47 u48 u49 u50 u51 u52 u53 u54 u55 u56 u57 u58 u59 u60 u61 u62 u63 u64 u65 u66 u67 u68 u69 u70 u71 u72 u73 u74 u75 u76 u77 u78 u79 u80 u81 u82 u83 u84 u85 u86 u87 u88 u89 u90 u91 u92 u93 u94 u95 u96 u97 u98 u99 u100 u101 u102 u103 u104 u105 u106 u107 u108 u109 u110 u111 u112 u113 u114 u115 u116 u117 u118 u119 u120 u121 u122 u123 u124 u125 u126 u127 u128 u129 u130 u131 u132 u133 u134 u135 u136 u137 i hil HBr k0 k1 q0 q1 q2 q3 q4 q5 hlt
          exact hP.out
        · obtain rfl : nl = i := by omega
          rename_i Q'_h2 K_h2 a_h2
          revert W0 HB0 Q'_h2 Y1 Y2 HB2 F HSb Y3 HB3 Al cl HBe HD2 len HBk3 HCh HCs HLen nl HF HNl hlen64 hnl1 HNe K_h2 a_h2 wr u4 u9 u10 u11 u46 u47 u48 u49 u50 u51 u52 u53 u54 u55 u56 u57 u58 u59 u60 u61 u62 u63 u64 u65 u66 u67 u68 u69 u70 u71 u72 u73 u74 u75 u76 u77 u78 u79 u80 u81 u82 u83 u84 u85 u86 u87 u88 u89 u90 u91 u92 u93 u94 u95 u96 u97 u98 u99 u100 u101 u102 u103 u104 u105 u106 u107 u108 u109 u110 u111 u112 u113 u114 u115 u116 u117 u118 u119 u120 u121 u122 u123 u124 u125 u126 u127 u128 u129 u130 u131 u132 u133 u134 u135 u136 u137 HBr k0 k1 q0 q1 q2 q3 q4 q5 hil hlt
          exact hQ.out
end Go.Proofs.Ytplpogonkfnafaa
