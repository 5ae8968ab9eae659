/- KeysBuilds: the law. -/
import Derived.Test.YthfegbcbpeedbaaDoorKyBl
import Derived.Test.YthfegbcbpeedbaaDoorKyBu
import Derived.Test.YthfegbcbpeedbaaDoorKyAs
import Derived.Test.YthfegbcbpeedbaaDoorKyRg
import Derived.Test.YthfegbcbpeedbaaDoorKyFm
namespace Go.Ky
open Go.Nm
end Go.Ky
namespace Go.Proofs.YthfegbcbpeedbaaDoor
open Go.RowKit Go.Nm Go.Ky

theorem made_sm {m : Mx} (hs : MSm m) : KSm (buildK m) := by
  rcases build_cs m with h0 | h0 | h0
  · exact bd_sm (build_bd h0) hs
  · unfold buildK; rw [if_neg (by omega)]; exact ⟨by simp, by simp, fun _ h => by simp at h, fun _ h => by simp at h⟩
  · unfold buildK; rw [if_neg (by omega)]; exact ⟨by simp, by simp, fun _ h => by simp at h, fun _ h => by simp at h⟩
end Go.Proofs.YthfegbcbpeedbaaDoor
namespace Go.Proofs.YthfegbcbpeedbaaDoor
open Go.RowKit Go.Nm Go.Ky

set_option maxRecDepth 100000 in
set_option maxHeartbeats 16000000 in
theorem KeysBuilds_any (v : Value) (m : Mx) (w : World) (hv : MxV w v m) (hT : TabH w) :
    Calls Tryd.prog 6 #[v] w fun e w' => e = .returned (.bool true) ∧ Below w.heap.size w w' := by
  obtain ⟨A1, c1, A2, c2, W0, rfl, hW0, hb0, hM, hS, hR, hX⟩ := mx_box hv
  have hn0 : W0.heap[w.heap.size]? = some (.cells #[.slice A1 m.st.length c1, .slice A2 m.rows.length c2] 25) := by rw [← hW0]; exact World.alloc_heap_new w _
  have HW := Lib.hid hW0
  have HB := Lib.hid hb0
  have HT := Lib.hid (hT.step hb0)
  have HM := Lib.hid (hM W0 (Below.refl _ _))
  have HBx := Lib.hid hn0
  obtain ⟨ns, hns⟩ : ∃ n, m.st.length = n := ⟨_, rfl⟩
  obtain ⟨nr, hnr⟩ : ∃ n, m.rows.length = n := ⟨_, rfl⟩
  rw [hns, hnr] at HW HM HBx
  rw [hns, hnr]
  have HNs := Lib.hid (And.intro hns hnr)
  obtain ⟨k0, k1⟩ := cells_two HBx.out
  clear hv hT hW0 hb0 hM hS hR hX hn0 hns hnr
  go_enter Tryd.func6, Tryd.ntmps6
  go_wp2_with fail
  rw [HW.out]
  (try go_wp2_with fail)
  (with_reducible refine (awake_any _ HT.out).mono ?_)
  rintro e w1 ⟨rfl, hb⟩
  replace HB := Lib.hid (HB.out.trans (hb.mono HB.out.size))
  replace HT := Lib.hid (HT.out.step hb)
  replace HM := Lib.hid (HM.out.step hb)
  replace HBx := Lib.hid ((hb.block _ (Array.getElem?_eq_some_iff.1 HBx.out).1).trans HBx.out)
  clear hb
  clear k0 k1
  obtain ⟨k0, k1⟩ := cells_two HBx.out
  have HFw := Lib.hid (few_any _ m w1 HM.out)
  cases hfw : fewF m with
  | false =>
    rw [hfw] at HFw
    clear hfw
    go_wp2_with fail
    (with_reducible refine HFw.out.mono ?_)
    rintro e w2 ⟨rfl, hb⟩
    replace HB := Lib.hid (HB.out.trans (hb.mono HB.out.size))
    clear hb
    go_wp2_with fail
    go_ret
    exact ⟨rfl, HB.out⟩
  | true =>
  rw [hfw] at HFw
  have HSm := Lib.hid (few_sm hfw)
  have HFe := Lib.hid hfw
  clear hfw
  go_wp2_with fail
  (with_reducible refine HFw.out.mono ?_)
  rintro e w3 ⟨rfl, hb⟩
  replace HB := Lib.hid (HB.out.trans (hb.mono HB.out.size))
  replace HT := Lib.hid (HT.out.step hb)
  replace HM := Lib.hid (HM.out.step hb)
  replace HBx := Lib.hid ((hb.block _ (Array.getElem?_eq_some_iff.1 HBx.out).1).trans HBx.out)
  clear HFw
  clear hb
  clear k0 k1
  obtain ⟨k0, k1⟩ := cells_two HBx.out
  by_cases h5 : (5 : Int) < (ns : Int)
  · by_cases h6 : (ns : Int) ≤ 64
    · go_wp2_with fail
      refine bodyPost_ret (v := .bool true) (by simp [results, Tryd.results6, go_sem]) rfl ?_
      exact And.intro rfl HB.out
    · skip
      have HKm := Lib.hid (made_sm HSm.out)
      have HC := Lib.hid (Build_any _ m w3 HM.out HSm.out)
      obtain ⟨k, hk5⟩ : ∃ k, buildK m = k := ⟨_, rfl⟩
      obtain ⟨be, hbe⟩ : ∃ x, buildE m = x := ⟨_, rfl⟩
      have HKe := Lib.hid (And.intro hk5 hbe)
      rw [hk5] at HC HKm
      rw [hbe] at HC
      clear hk5 hbe
      go_wp2_with fail
      (with_reducible refine HC.out.mono ?_)
      rintro e w4 ⟨⟨u0, rfl, hk⟩, hb⟩
      replace HB := Lib.hid (HB.out.trans (hb.mono HB.out.size))
      replace HT := Lib.hid (HT.out.step hb)
      replace HM := Lib.hid (HM.out.step hb)
      replace HBx := Lib.hid ((hb.block _ (Array.getElem?_eq_some_iff.1 HBx.out).1).trans HBx.out)
      clear HC
      clear hb
      clear k0 k1
      obtain ⟨k0, k1⟩ := cells_two HBx.out
      clear k0 k1
      obtain ⟨D51, e51, D52, e52, W5, rfl, hW5, hb5, hKy5, _, _, _⟩ := ky_box hk
      have hn5 : W5.heap[w4.heap.size]? = some (.cells #[.slice D51 k.nd.length e51, .slice D52 k.lv.length e52] 53) := by rw [← hW5]; exact World.alloc_heap_new w4 _
      have HKy5 := Lib.hid (hKy5 W5 (Below.refl _ _))
      have HKx5 := Lib.hid hn5
      replace HB := Lib.hid (HB.out.trans (hb5.mono HB.out.size))
      replace HT := Lib.hid (HT.out.step hb5)
      replace HM := Lib.hid (HM.out.step hb5)
      replace HBx := Lib.hid ((hb5.block _ (Array.getElem?_eq_some_iff.1 HBx.out).1).trans HBx.out)
      obtain ⟨k0, k1⟩ := cells_two HBx.out
      obtain ⟨j0, j1⟩ := cells_two HKx5.out
      clear hk hKy5 hn5 hb5
      have HC := Lib.hid (rBuild_any _ m W5 HM.out HSm.out)
      rw [HKe.out.1, HKe.out.2] at HC
      go_wp2_with fail
      clear hW5
      (with_reducible refine HC.out.mono ?_)
      rintro e w5 ⟨⟨u1, rfl, hk⟩, hb⟩
      replace HB := Lib.hid (HB.out.trans (hb.mono HB.out.size))
      replace HT := Lib.hid (HT.out.step hb)
      replace HM := Lib.hid (HM.out.step hb)
      replace HBx := Lib.hid ((hb.block _ (Array.getElem?_eq_some_iff.1 HBx.out).1).trans HBx.out)
      replace HKy5 := Lib.hid (HKy5.out.step hb)
      replace HKx5 := Lib.hid ((hb.block _ (Array.getElem?_eq_some_iff.1 HKx5.out).1).trans HKx5.out)
      clear HC
      clear hb
      clear k0 k1 j0 j1
      obtain ⟨k0, k1⟩ := cells_two HBx.out
      obtain ⟨j0, j1⟩ := cells_two HKx5.out
      clear k0 k1 j0 j1
      obtain ⟨D71, e71, D72, e72, W7, rfl, hW7, hb5, hKy5, _, _, _⟩ := ky_box hk
      have hn5 : W7.heap[w5.heap.size]? = some (.cells #[.slice D71 k.nd.length e71, .slice D72 k.lv.length e72] 53) := by rw [← hW7]; exact World.alloc_heap_new w5 _
      have HKy7 := Lib.hid (hKy5 W7 (Below.refl _ _))
      have HKx7 := Lib.hid hn5
      replace HB := Lib.hid (HB.out.trans (hb5.mono HB.out.size))
      replace HT := Lib.hid (HT.out.step hb5)
      replace HM := Lib.hid (HM.out.step hb5)
      replace HBx := Lib.hid ((hb5.block _ (Array.getElem?_eq_some_iff.1 HBx.out).1).trans HBx.out)
      replace HKy5 := Lib.hid (HKy5.out.step hb5)
      replace HKx5 := Lib.hid ((hb5.block _ (Array.getElem?_eq_some_iff.1 HKx5.out).1).trans HKx5.out)
      obtain ⟨k0, k1⟩ := cells_two HBx.out
      obtain ⟨j0, j1⟩ := cells_two HKx5.out
      obtain ⟨i0, i1⟩ := cells_two HKx7.out
      clear hk hKy5 hn5 hb5
      have HC := Lib.hid (SameKeyT_any _ _ k W7 HKy5.out HKy7.out HKm.out)
      go_wp2_with fail
      clear hW7
      (with_reducible refine HC.out.mono ?_)
      rintro e w6 ⟨rfl, hb⟩
      replace HB := Lib.hid (HB.out.trans (hb.mono HB.out.size))
      replace HT := Lib.hid (HT.out.step hb)
      replace HM := Lib.hid (HM.out.step hb)
      replace HBx := Lib.hid ((hb.block _ (Array.getElem?_eq_some_iff.1 HBx.out).1).trans HBx.out)
      replace HKy5 := Lib.hid (HKy5.out.step hb)
      replace HKx5 := Lib.hid ((hb.block _ (Array.getElem?_eq_some_iff.1 HKx5.out).1).trans HKx5.out)
      replace HKy7 := Lib.hid (HKy7.out.step hb)
      replace HKx7 := Lib.hid ((hb.block _ (Array.getElem?_eq_some_iff.1 HKx7.out).1).trans HKx7.out)
      clear HC
      clear hb
      clear k0 k1 j0 j1 i0 i1
      obtain ⟨k0, k1⟩ := cells_two HBx.out
      obtain ⟨j0, j1⟩ := cells_two HKx5.out
      obtain ⟨i0, i1⟩ := cells_two HKx7.out
      go_wp2_with fail
      refine bodyPost_ret (v := .bool true) (by simp [results, Tryd.results6, go_sem]) rfl ?_
      exact And.intro rfl HB.out
  · skip
    have HKm := Lib.hid (made_sm HSm.out)
    have HC := Lib.hid (Build_any _ m w3 HM.out HSm.out)
    obtain ⟨k, hk5⟩ : ∃ k, buildK m = k := ⟨_, rfl⟩
    obtain ⟨be, hbe⟩ : ∃ x, buildE m = x := ⟨_, rfl⟩
    have HKe := Lib.hid (And.intro hk5 hbe)
    rw [hk5] at HC HKm
    rw [hbe] at HC
    clear hk5 hbe
    go_wp2_with fail
    (with_reducible refine HC.out.mono ?_)
    rintro e w7 ⟨⟨u0, rfl, hk⟩, hb⟩
    replace HB := Lib.hid (HB.out.trans (hb.mono HB.out.size))
    replace HT := Lib.hid (HT.out.step hb)
    replace HM := Lib.hid (HM.out.step hb)
    replace HBx := Lib.hid ((hb.block _ (Array.getElem?_eq_some_iff.1 HBx.out).1).trans HBx.out)
    clear HC
    clear hb
    clear k0 k1
    obtain ⟨k0, k1⟩ := cells_two HBx.out
    clear k0 k1
    obtain ⟨D51, e51, D52, e52, W5, rfl, hW5, hb5, hKy5, _, _, _⟩ := ky_box hk
    have hn5 : W5.heap[w7.heap.size]? = some (.cells #[.slice D51 k.nd.length e51, .slice D52 k.lv.length e52] 53) := by rw [← hW5]; exact World.alloc_heap_new w7 _
    have HKy5 := Lib.hid (hKy5 W5 (Below.refl _ _))
    have HKx5 := Lib.hid hn5
    replace HB := Lib.hid (HB.out.trans (hb5.mono HB.out.size))
    replace HT := Lib.hid (HT.out.step hb5)
    replace HM := Lib.hid (HM.out.step hb5)
    replace HBx := Lib.hid ((hb5.block _ (Array.getElem?_eq_some_iff.1 HBx.out).1).trans HBx.out)
    obtain ⟨k0, k1⟩ := cells_two HBx.out
    obtain ⟨j0, j1⟩ := cells_two HKx5.out
    clear hk hKy5 hn5 hb5
    have HC := Lib.hid (rBuild_any _ m W5 HM.out HSm.out)
    rw [HKe.out.1, HKe.out.2] at HC
    go_wp2_with fail
    clear hW5
    (with_reducible refine HC.out.mono ?_)
    rintro e w8 ⟨⟨u1, rfl, hk⟩, hb⟩
    replace HB := Lib.hid (HB.out.trans (hb.mono HB.out.size))
    replace HT := Lib.hid (HT.out.step hb)
    replace HM := Lib.hid (HM.out.step hb)
    replace HBx := Lib.hid ((hb.block _ (Array.getElem?_eq_some_iff.1 HBx.out).1).trans HBx.out)
    replace HKy5 := Lib.hid (HKy5.out.step hb)
    replace HKx5 := Lib.hid ((hb.block _ (Array.getElem?_eq_some_iff.1 HKx5.out).1).trans HKx5.out)
    clear HC
    clear hb
    clear k0 k1 j0 j1
    obtain ⟨k0, k1⟩ := cells_two HBx.out
    obtain ⟨j0, j1⟩ := cells_two HKx5.out
    clear k0 k1 j0 j1
    obtain ⟨D71, e71, D72, e72, W7, rfl, hW7, hb5, hKy5, _, _, _⟩ := ky_box hk
    have hn5 : W7.heap[w8.heap.size]? = some (.cells #[.slice D71 k.nd.length e71, .slice D72 k.lv.length e72] 53) := by rw [← hW7]; exact World.alloc_heap_new w8 _
    have HKy7 := Lib.hid (hKy5 W7 (Below.refl _ _))
    have HKx7 := Lib.hid hn5
    replace HB := Lib.hid (HB.out.trans (hb5.mono HB.out.size))
    replace HT := Lib.hid (HT.out.step hb5)
    replace HM := Lib.hid (HM.out.step hb5)
    replace HBx := Lib.hid ((hb5.block _ (Array.getElem?_eq_some_iff.1 HBx.out).1).trans HBx.out)
    replace HKy5 := Lib.hid (HKy5.out.step hb5)
    replace HKx5 := Lib.hid ((hb5.block _ (Array.getElem?_eq_some_iff.1 HKx5.out).1).trans HKx5.out)
    obtain ⟨k0, k1⟩ := cells_two HBx.out
    obtain ⟨j0, j1⟩ := cells_two HKx5.out
    obtain ⟨i0, i1⟩ := cells_two HKx7.out
    clear hk hKy5 hn5 hb5
    have HC := Lib.hid (SameKeyT_any _ _ k W7 HKy5.out HKy7.out HKm.out)
    go_wp2_with fail
    clear hW7
    (with_reducible refine HC.out.mono ?_)
    rintro e w9 ⟨rfl, hb⟩
    replace HB := Lib.hid (HB.out.trans (hb.mono HB.out.size))
    replace HT := Lib.hid (HT.out.step hb)
    replace HM := Lib.hid (HM.out.step hb)
    replace HBx := Lib.hid ((hb.block _ (Array.getElem?_eq_some_iff.1 HBx.out).1).trans HBx.out)
    replace HKy5 := Lib.hid (HKy5.out.step hb)
    replace HKx5 := Lib.hid ((hb.block _ (Array.getElem?_eq_some_iff.1 HKx5.out).1).trans HKx5.out)
    replace HKy7 := Lib.hid (HKy7.out.step hb)
    replace HKx7 := Lib.hid ((hb.block _ (Array.getElem?_eq_some_iff.1 HKx7.out).1).trans HKx7.out)
    clear HC
    clear hb
    clear k0 k1 j0 j1 i0 i1
    obtain ⟨k0, k1⟩ := cells_two HBx.out
    obtain ⟨j0, j1⟩ := cells_two HKx5.out
    obtain ⟨i0, i1⟩ := cells_two HKx7.out
    go_wp2_with fail
    refine bodyPost_ret (v := .bool true) (by simp [results, Tryd.results6, go_sem]) rfl ?_
    exact And.intro rfl HB.out
end Go.Proofs.YthfegbcbpeedbaaDoor
