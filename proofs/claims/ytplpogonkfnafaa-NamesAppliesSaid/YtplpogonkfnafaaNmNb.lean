/- The reference: SameBook, of the same book. -/
import Derived.Test.YtplpogonkfnafaaNmQC
import Derived.Test.YtplpogonkfnafaaNmBe
namespace Go.Proofs.Ytplpogonkfnafaa
open Go.RowKit Go.Nm

/-- a change, and what reads it -/
theorem ch_reads3 {W0 : World} {A : Option Addr} {n c : Nat} {L : List Ch} (h : ChSl W0 W0.heap.size (.slice A n c) L) {i : Nat} (hi : i < n) : ∃ (x : Ch) (ad : Addr) (Af : Option Addr) (cf : Nat) (At : Option Addr) (ct : Nat), L[i]? = some x ∧ A = some ad ∧
    ∀ Y, Below W0.heap.size W0 Y → (Y.cell? (ad.add (i * 3)) = some (.int .i64 x.yr) ∧ Y.cell? ⟨(ad.add (i * 3)).block, (ad.add (i * 3)).off + 1, none⟩ = some (.slice Af x.fr.length cf) ∧ Y.cell? ⟨(ad.add (i * 3)).block, (ad.add (i * 3)).off + 2, none⟩ = some (.slice At x.to.length ct)) ∧ InSl Y Y.heap.size (.slice Af x.fr.length cf) x.fr ∧ InSl Y Y.heap.size (.slice At x.to.length ct) x.to := by
  obtain ⟨x, ad, vf, vt, hx, ha, hb, d0, d1, d2, hf, ht⟩ := h.at_ hi
  obtain ⟨Af, cf, rfl, _⟩ := hf.form
  obtain ⟨At, ct, rfl, _⟩ := ht.form
  refine ⟨x, ad, Af, cf, At, ct, hx, ha, fun Y hY => ⟨⟨(hY.cell (by rw [add_block]; exact hb)).trans d0, (hY.cell (p := ⟨(ad.add (i * 3)).block, _, none⟩) ?_).trans d1, (hY.cell (p := ⟨(ad.add (i * 3)).block, _, none⟩) ?_).trans d2⟩, hf.step hY, ht.step hY⟩⟩
  · show (ad.add (i * 3)).block < W0.heap.size; rw [add_block]; exact hb
  · show (ad.add (i * 3)).block < W0.heap.size; rw [add_block]; exact hb
theorem new3 {w Y : World} {a b c : Value} {t : TypeId} (h : Below (w.alloc (.cells #[a, b, c] t)).heap.size (w.alloc (.cells #[a, b, c] t)) Y) : Y.cell? ⟨w.heap.size, 0, none⟩ = some a ∧ Y.cell? ⟨w.heap.size, 1, none⟩ = some b ∧ Y.cell? ⟨w.heap.size, 2, none⟩ = some c := by
  have h1 := World.alloc_heap_new w (.cells #[a, b, c] t)
  exact cells_three ((h.block _ (Array.getElem?_eq_some_iff.1 h1).1).trans h1)
set_option maxRecDepth 100000 in
set_option maxHeartbeats 8000000 in
theorem SameBook_same (u v uc vc : Value) (b : Bk) (w : World) (hu : BkV w u b uc) (hv : BkV w v b vc) (hs : Sm b) :
    Calls Try.prog 48 #[u, v] w fun e w' => e = .returned (.bool true) ∧ Below w.heap.size w w' := by
  obtain ⟨A1, c1, A2, c2, W0, rfl, rfl, hW0, hb0, hB0, hx⟩ := bk_box hu
  obtain ⟨A3, c3, A4, c4, W1, rfl, rfl, hW1, hb1, hB1, hy⟩ := bk_box (hv.step hb0)
  have hsz : W0.heap.size = w.heap.size + 1 := by rw [← hW0]; simp
  have HX := Lib.hid (fun Y (h : Below W1.heap.size W1 Y) => hx Y (hb1.trans (h.mono hb1.size)))
  have HY := Lib.hid hy
  rw [hsz] at HY
  have HB1 := Lib.hid (hb0.trans (hb1.mono hb0.size))
  have HW := Lib.hid (And.intro hW0 hW1)
  have HCu := Lib.hid (show ChSl W1 W1.heap.size (.slice A2 b.chs.length c2) b.chs from by obtain ⟨_, _, _, h⟩ := hB0.step hb1; exact h)
  have HCv := Lib.hid (show ChSl W1 W1.heap.size (.slice A4 b.chs.length c4) b.chs from by obtain ⟨_, _, _, h⟩ := hB1; exact h)
  have HF := Lib.hid (show Calls Try.prog 28 #[.slice A1 b.first.length c1, .slice A3 b.first.length c3] W1 fun e w' => e = .returned (.bool true) ∧ Below W1.heap.size W1 w' from by
    obtain ⟨_, e1, h1, _⟩ := hB0.step hb1
    obtain ⟨_, e2, h2, _⟩ := hB1
    injection e1 with e1; injection e2 with e2
    have e1 := congrArg (fun a : Array Value => a[0]?) e1
    have e2 := congrArg (fun a : Array Value => a[0]?) e2
    simp at e1 e2
    subst e1; subst e2
    have h := SameInts_any _ _ b.first b.first W1 h1 h2 (by have := hs.1; omega) (by have := hs.1; omega)
    rw [decide_eq_true rfl] at h
    exact h)
  have HS := Lib.hid hs
  obtain ⟨k0, k1⟩ := HX.out W1 (Below.refl _ _)
  obtain ⟨q0, q1⟩ := HY.out W1 (Below.refl _ _)
  rw [← hW1, ← hW0] at k0 k1 q0 q1
  obtain ⟨len, hlen⟩ : ∃ len, b.chs.length = len := ⟨_, rfl⟩
  have hl64 : len ≤ 1000 := by have := hs.2.1; omega
  have HLn := Lib.hid hlen
  obtain ⟨nf, hnf⟩ : ∃ nf, b.first.length = nf := ⟨_, rfl⟩
  rw [hlen, hnf] at HX HY HW k0 k1 q0 q1
  rw [hlen] at HCu HCv
  rw [hnf] at HF
  rw [hlen, hnf]
  clear hu hv hW0 hW1 hb0 hb1 hB0 hB1 hx hy hs hsz hlen hnf
  go_enter Try.func48, Try.ntmps48
  go_wp2_with fail
  rw [HW.out.1, HW.out.2]
  (with_reducible refine (HF.out).mono ?_)
  rintro e w1 ⟨rfl, hb⟩
  have HBa := Lib.hid hb
  clear hb k0 k1 q0 q1
  obtain ⟨k0, k1⟩ := HX.out w1 HBa.out
  obtain ⟨q0, q1⟩ := HY.out w1 HBa.out
  go_wp2_with fail
  go_loopw [5] (fun iv wr => ∃ i : Nat, iv = .int .i64 (i : Int) ∧ i ≤ len ∧ Below W1.heap.size W1 wr) (fun iv _ => len - (intOf iv).toNat)
  case atStart => exact ⟨0, rfl, by omega, HBa.out⟩
  case round =>
    obtain ⟨i, rfl, hil, hb⟩ := hrel
    have HB := Lib.hid hb
    clear hb k0 k1 q0 q1
    obtain ⟨k0, k1⟩ := HX.out wr HB.out
    obtain ⟨q0, q1⟩ := HY.out wr HB.out
    by_cases hlt : i < len
    · obtain ⟨x, ad, Af, cf, At, ct, hx, rfl, hr1⟩ := ch_reads3 HCu.out hlt
      obtain ⟨x', ad', Ag, cg, Au, cu, hx', rfl, hr2⟩ := ch_reads3 HCv.out hlt
      rw [hx] at hx'
      injection hx' with hx'
      subst hx'
      have HSx := Lib.hid (HS.out.2.2 x (List.mem_of_getElem? hx))
      have HR1 := Lib.hid hr1
      have HR2 := Lib.hid hr2
      clear hx hr1 hr2
      have hi1 : (i : Int) < (len : Int) := by omega
      obtain ⟨⟨d0, d1, d2⟩, _⟩ := HR1.out wr HB.out
      have HE1 := Lib.hid (below_new (w := wr) (.cells #[.int .i64 x.yr, .slice Af x.fr.length cf, .slice At x.to.length ct] 52))
      have HE2 := Lib.hid (below_new (w := (wr.alloc (.cells #[.int .i64 x.yr, .slice Af x.fr.length cf, .slice At x.to.length ct] 52))) (.cells #[.int .i64 x.yr, .slice Ag x.fr.length cg, .slice Au x.to.length cu] 52))
      have hsz : (wr.alloc (.cells #[.int .i64 x.yr, .slice Af x.fr.length cf, .slice At x.to.length ct] 52)).heap.size = wr.heap.size + 1 := by simp
      obtain ⟨⟨m0, m1, m2⟩, _⟩ := HR2.out _ (HB.out.trans (HE1.out.mono HB.out.size))
      obtain ⟨n0, n1⟩ := HY.out _ (HB.out.trans (HE1.out.mono HB.out.size))
      have HRd := Lib.hid (fun Y (h : Below ((wr.alloc (.cells #[.int .i64 x.yr, .slice Af x.fr.length cf, .slice At x.to.length ct] 52)).alloc (.cells #[.int .i64 x.yr, .slice Ag x.fr.length cg, .slice Au x.to.length cu] 52)).heap.size ((wr.alloc (.cells #[.int .i64 x.yr, .slice Af x.fr.length cf, .slice At x.to.length ct] 52)).alloc (.cells #[.int .i64 x.yr, .slice Ag x.fr.length cg, .slice Au x.to.length cu] 52)) Y) => And.intro (new3 (HE2.out.trans (h.mono HE2.out.size))) (new3 h))
      rw [hsz] at HRd
      obtain ⟨⟨x0, x1, x2⟩, y0, y1, y2⟩ := HRd.out _ (Below.refl _ _)
      have HBb := Lib.hid (HB.out.trans ((HE1.out.trans (HE2.out.mono HE1.out.size)).mono HB.out.size))
      have HSf := Lib.hid (SameInts_any _ _ x.fr x.fr _ (HR1.out _ HBb.out).2.1 (HR2.out _ HBb.out).2.1 (by have := HSx.out; omega) (by have := HSx.out; omega))
      have HSt := Lib.hid (fun Y (h : Below W1.heap.size W1 Y) => SameInts_any _ _ x.to x.to Y (HR1.out _ h).2.2 (HR2.out _ h).2.2 (by have := HSx.out; omega) (by have := HSx.out; omega))
      rw [decide_eq_true rfl] at HSf
      simp only [decide_true] at HSt
      have hyy : (x.yr != x.yr) = false := by simp
      clear HR1 HR2 HSx HE1 HE2
      go_wp2_with fail
      (with_reducible refine HSf.out.mono ?_)
      rintro e Z1 ⟨rfl, hb⟩
      have HB2 := Lib.hid (HBb.out.trans (hb.mono HBb.out.size))
      clear x0 x1 x2 y0 y1 y2 m0 m1 m2 n0 n1 k0 k1 q0 q1 d0 d1 d2
      obtain ⟨⟨x0, x1, x2⟩, y0, y1, y2⟩ := HRd.out Z1 hb
      clear hb
      go_wp2_with fail
      (with_reducible refine (HSt.out Z1 HB2.out).mono ?_)
      rintro e Z2 ⟨rfl, hb⟩
      have HB3 := Lib.hid (HB2.out.trans (hb.mono HB2.out.size))
      clear hb
      go_wp2_with fail
      go_roundw
      case rel => exact ⟨i + 1, by go_num, by omega, HB3.out⟩
      case measure => simp [intOf]; omega
    · have hi1 : ¬ (i : Int) < (len : Int) := by omega
      go_wp2_with fail
      go_ret
      exact ⟨rfl, HB1.out.trans (HB.out.mono HB1.out.size)⟩
end Go.Proofs.Ytplpogonkfnafaa
