/- What two rows have in common. -/
import Derived.Test.YthfegbcbpeedbaaDoorKyK
namespace Go.Ky
open Go.Nm
def comE (m : Mx) (a b : Int) : Int := if rowE m a = 0 then rowE m b else rowE m a
def comL (m : Mx) (a b : Int) : List Int := List.zipWith meetF (rowF m a).may (rowF m b).may
theorem row_all (m : Mx) (name : Int) : (rowE m name = 0 ∧ mxF m = true ∧ (rowF m name).may.length = m.st.length ∧ rowF m name ∈ m.rows ∧ (rowF m name).nm = name) ∨ ((rowE m name = 1 ∨ rowE m name = 30) ∧ rowF m name = ⟨0, []⟩) := by
  cases hm : mxF m with
  | false => exact .inr ⟨.inr (by unfold rowE; simp [hm]), by unfold rowF; simp [hm]⟩
  | true =>
    rcases row_cases (name := name) hm with ⟨h1, h2, h3, h4⟩ | ⟨h1, h2⟩
    · exact .inl ⟨h1, rfl, h2, h3, h4⟩
    · exact .inr ⟨.inl h1, h2⟩
theorem com_ok {m : Mx} {a b : Int} (h : comE m a b = 0) : mxF m = true ∧ rowE m a = 0 ∧ rowE m b = 0 ∧ (rowF m a).may.length = m.st.length ∧ (rowF m b).may.length = m.st.length ∧ (comL m a b).length = m.st.length := by
  unfold comE at h
  rcases row_all m a with ⟨h1, h2, h3, _⟩ | ⟨h1, _⟩
  · rw [if_pos h1] at h
    rcases row_all m b with ⟨h4, _, h5, _⟩ | ⟨h4, _⟩
    · exact ⟨h2, h1, h4, h3, h5, by unfold comL; rw [List.length_zipWith, h3, h5]; omega⟩
    · omega
  · rw [if_neg (by omega)] at h; omega
end Go.Ky
namespace Go.Proofs.YthfegbcbpeedbaaDoor
open Go.RowKit Go.Nm Go.Ky

set_option maxRecDepth 100000 in
set_option maxHeartbeats 8000000 in
theorem commonOf_any (v : Value) (m : Mx) (a b : Int) (w : World) (hv : MxV w v m) (hs : MSm m) :
    Calls Tryd.prog 78 #[v, .int .i64 a, .int .i64 b] w fun e w' =>
      ((comE m a b = 0 ∧ ∃ gw : Nat, e = .returned (.tuple #[.slice (some ⟨gw, 0, none⟩) m.st.length m.st.length, .int .i64 0]) ∧ ∃ f : Nat → Int, IwI w gw m.st.length f w' ∧ ∀ k z, (comL m a b)[k]? = some z → f k = z) ∨ (comE m a b ≠ 0 ∧ e = .returned (.tuple #[.slice none 0 0, .int .i64 (comE m a b)]))) ∧ Below w.heap.size w w' := by
  obtain ⟨A1, c1, A2, c2, W0, rfl, hW0, hb0, hM, hS, hR, hX⟩ := mx_box hv
  have HB0 := Lib.hid hb0
  have HW0 := Lib.hid hW0
  have HX := Lib.hid hX
  have HRw := Lib.hid (fun name Y (h : Below W0.heap.size W0 Y) => Row_any _ m name Y (hM Y h) hs)
  obtain ⟨k0, k1⟩ := hX W0 (Below.refl _ _)
  have HKa := Lib.hid (row_all m a)
  have HKb := Lib.hid (row_all m b)
  have HO := Lib.hid (show comE m a b = (if rowE m a = 0 then rowE m b else rowE m a) ∧ comL m a b = List.zipWith meetF (rowF m a).may (rowF m b).may from ⟨rfl, rfl⟩)
  have HRa := Lib.hid (HRw.out a W0 (Below.refl _ _))
  have HRb := Lib.hid (HRw.out b)
  have hns : m.st.length ≤ 1000 := hs.1
  rw [HO.out.1, HO.out.2]
  obtain ⟨ra, hra⟩ : ∃ r, rowF m a = r := ⟨_, rfl⟩
  obtain ⟨rb, hrb⟩ : ∃ r, rowF m b = r := ⟨_, rfl⟩
  obtain ⟨ea, hea⟩ : ∃ r, rowE m a = r := ⟨_, rfl⟩
  obtain ⟨eb, heb⟩ : ∃ r, rowE m b = r := ⟨_, rfl⟩
  rw [hra, hea] at HKa HRa
  rw [hrb, heb] at HKb HRb
  rw [hra, hrb, hea, heb]
  generalize m.rows.length = nr at *
  obtain ⟨ns, hn⟩ : ∃ n, m.st.length = n := ⟨_, rfl⟩
  rw [hn] at HX HW0 HRa HRb HKa HKb k0 hns ⊢
  clear hv hs hW0 hb0 hM hS hR hX hra hrb hea heb hn HRw HO
  go_enter Tryd.func78, Tryd.ntmps78
  go_wp2_with fail
  rw [HW0.out]
  (try go_wp2_with fail)
  (with_reducible refine HRa.out.mono ?_)
  rintro e w1 ⟨⟨va, rfl, hva⟩, hb⟩
  obtain ⟨Aa, ca, rfl, _⟩ := hva.1.form
  have HVa := Lib.hid hva
  have hbx := below_new (w := w1) (.cells #[.int .i64 ra.nm, .slice Aa ra.may.length ca] 35)
  have HBx := Lib.hid hbx
  have HNx := Lib.hid (World.alloc_heap_new w1 (.cells #[.int .i64 ra.nm, .slice Aa ra.may.length ca] 35))
  have HB1 := Lib.hid (hb.trans (hbx.mono hb.size))
  have HB1w := Lib.hid hb
  clear hva hb k0 k1 HRa hbx
  rcases HKa.out with ⟨rfl, hm, hla, h3, h4⟩ | ⟨hea, hra⟩
  case inr =>
    clear HKa HRb HKb
    rcases hea with rfl | rfl
    · clear hra
      go_wp2_with fail
      go_ret2
      exact ⟨rfl, HB0.out.trans (HB1.out.mono HB0.out.size)⟩
    · clear hra
      go_wp2_with fail
      go_ret2
      exact ⟨rfl, HB0.out.trans (HB1.out.mono HB0.out.size)⟩
  case inl =>
  have HLa := Lib.hid hla
  rw [hla] at HB1 HBx HNx HVa ⊢
  clear hm hla h3 h4 HKa
  obtain ⟨k0, k1⟩ := HX.out _ HB1.out
  have HRb1 := Lib.hid (HRb.out _ HB1.out)
  clear HRb
  go_wp2_with fail
  (with_reducible refine HRb1.out.mono ?_)
  rintro e w2 ⟨⟨vb, rfl, hvb⟩, hb⟩
  obtain ⟨Ab, cb, rfl, _⟩ := hvb.1.form
  have HVb := Lib.hid hvb
  have hbx := below_new (w := w2) (.cells #[.int .i64 rb.nm, .slice Ab rb.may.length cb] 35)
  have hnx := World.alloc_heap_new w2 (.cells #[.int .i64 rb.nm, .slice Ab rb.may.length cb] 35)
  have hna := (hbx.block _ (Nat.lt_of_lt_of_le (Array.getElem?_eq_some_iff.1 HNx.out).1 hb.size)).trans ((hb.block _ (Array.getElem?_eq_some_iff.1 HNx.out).1).trans HNx.out)
  have HB2 := Lib.hid (HB1.out.trans ((hb.trans (hbx.mono hb.size)).mono HB1.out.size))
  have HBy := Lib.hid (hb.trans (hbx.mono hb.size))
  have HBz := Lib.hid hbx
  clear hvb hb k0 k1 HRb1 hbx
  rcases HKb.out with ⟨rfl, hm, hlb, h3, h4⟩ | ⟨heb, hrb⟩
  case inr =>
    clear HKb hnx hna
    rcases heb with rfl | rfl
    · clear hrb
      go_wp2_with fail
      go_ret2
      exact ⟨rfl, HB0.out.trans (HB2.out.mono HB0.out.size)⟩
    · clear hrb
      go_wp2_with fail
      go_ret2
      exact ⟨rfl, HB0.out.trans (HB2.out.mono HB0.out.size)⟩
  case inl =>
  have HLb := Lib.hid hlb
  rw [hlb] at HB2 HBy HBz HVb hnx hna ⊢
  clear hm hlb h3 h4 HKb
  obtain ⟨a0, a1⟩ := cells_two hna
  obtain ⟨b0, b1⟩ := cells_two hnx
  have HCo := Lib.hid (common_any (.slice Aa ns ca) (.slice Ab ns cb) ra.may rb.may _ ((HVa.out.1.step HBx.out).step HBy.out) (HVb.out.1.step HBz.out) (by rw [HLa.out, HLb.out]) (by rw [HLa.out]; omega))
  rw [HLa.out] at HCo
  clear hna hnx
  go_wp2_with fail
  (with_reducible refine HCo.out.mono ?_)
  rintro e w3 ⟨gw, f, rfl, hI, hf⟩
  have HI := Lib.hid (hI.low (HB0.out.trans (HB2.out.mono HB0.out.size)))
  have HF := Lib.hid (show ∀ k z, (List.zipWith meetF ra.may rb.may)[k]? = some z → f k = z from fun k z hz => by
    rw [List.getElem?_zipWith] at hz
    cases hx : ra.may[k]? with
    | none => rw [hx] at hz; simp at hz
    | some x =>
      cases hy : rb.may[k]? with
      | none => rw [hx, hy] at hz; simp at hz
      | some y =>
        rw [hx, hy] at hz
        simp at hz
        rw [hf k x y hx hy, hz])
  clear hI hf a0 a1 b0 b1 HCo
  go_wp2_with fail
  go_ret2
  exact ⟨⟨gw, rfl, f, HI.out, HF.out⟩, HI.out.bel⟩
end Go.Proofs.YthfegbcbpeedbaaDoor
