/- further. -/
import Derived.Test.YtplpogonkfnafaaNmA
namespace Go.Proofs.Ytplpogonkfnafaa
open Go.RowKit Go.Nm

/-- the names that may follow in a fate -/
def furF (b : Bk) (g : List Int) : List Int := match g.getLast? with
  | none => b.first
  | some x => match b.chs[g.length - 1]? with
    | some c => if x ∈ c.fr then c.to else [x]
    | none => [x]
theorem last_at {g : List Int} {k : Nat} {x : Int} (hk : g.length = k + 1) (h : g[k]? = some x) : g.getLast? = some x := by
  rw [List.getLast?_eq_getElem?, hk]; exact h
theorem off_add (g : Nat) (k : Nat) : (⟨g, 0, none⟩ : Addr).add k = ⟨g, k, none⟩ := by cases k <;> simp [Addr.add]
set_option maxRecDepth 100000 in
set_option maxHeartbeats 8000000 in
theorem further_any (W0 w : World) (v vc : Value) (b : Bk) (g : List Int) (gB cap : Nat) (hv : HsV W0 v b vc) (hs : Sm b) (hval : Val b) (hW : Below W0.heap.size W0 w) (hg : InA w w.heap.size (some ⟨gB, 0, none⟩) g) (hgl : g.length ≤ b.chs.length) (hcap : g.length < cap) (hcm : cap ≤ 100000) :
    Calls Try.prog 118 #[v, .slice (some ⟨gB, 0, none⟩) g.length cap] w fun e w' => (∃ r, e = .returned r ∧ (InSl W0 W0.heap.size r (furF b g) ∨ (∃ k c x, g.length = k + 1 ∧ r = .slice (some ⟨gB, k, none⟩) 1 c ∧ 1 ≤ c ∧ furF b g = [x] ∧ g[k]? = some x))) ∧ Below w.heap.size w w' := by
  obtain ⟨vs, rfl, h1, h2⟩ := hv
  have h0 := val_first hval
  obtain ⟨Av, cv, rfl⟩ := h1.form
  obtain ⟨A2, c2, rfl⟩ := h2.form
  have hb0 := below_new (w := w) (.cells #[.slice Av (vers b).length cv, .slice A2 b.chs.length c2] 67)
  have HN0 := Lib.hid (World.alloc_heap_new w (.cells #[.slice Av (vers b).length cv, .slice A2 b.chs.length c2] 67))
  have HB0 := Lib.hid hb0
  have HBW := Lib.hid (hW.trans (hb0.mono hW.size))
  have HVal := Lib.hid hval
  have HS := Lib.hid hs
  have HCh := Lib.hid h2
  have HG := Lib.hid ((hg.below hb0).mono hb0.size)
  have hvl := hval.2
  rcases Nat.eq_zero_or_pos g.length with hz | hz
  · obtain rfl := List.length_eq_zero_iff.1 hz
    obtain ⟨ad, u0, L0, rfl, hbd, hL0, hc0, hin0⟩ := h1.at_ (i := 0) (by omega)
    obtain rfl : L0 = b.first := by rw [h0] at hL0; injection hL0 with e; exact e.symm
    obtain ⟨A1, c1, rfl, _⟩ := hin0.form
    have HF := Lib.hid hin0
    rw [add_zero'] at hc0
    have hc1 := (HBW.out.cell hbd).trans hc0
    obtain ⟨k0, k1⟩ := cells_two HN0.out
    clear h1 h2 hb0 hg hin0 hc0 hL0 h0 hW hs hval
    generalize (vers b).length = vl at *
    go_enter Try.func118, Try.ntmps118
    go_wp2_with fail
    go_ret
    exact ⟨⟨_, rfl, .inl (by simpa [furF] using HF.out)⟩, HB0.out⟩
  · obtain ⟨k, hk⟩ : ∃ k, g.length = k + 1 := ⟨g.length - 1, by omega⟩
    have hkc : k < b.chs.length := by omega
    obtain ⟨c, ad, vf, vt, hc, rfl, hbd, d0, d1, d2, hf0, ht0⟩ := h2.at_ hkc
    obtain ⟨_, _, _, _, g3⟩ := step_data hval hc
    have hlf := hs.2.2 c (List.mem_of_getElem? hc)
    obtain ⟨Af, cf, rfl, _⟩ := hf0.form
    obtain ⟨At, ct, rfl, _⟩ := ht0.form
    obtain ⟨x, ad2, hx, e2, hbd2, hcx⟩ := HG.out.at_ hk (Nat.lt_succ_self k)
    injection e2 with e2
    subst e2
    rw [off_add] at hcx
    have d0' := (HBW.out.cell (p := ad.add (k * 3)) (by rw [add_block]; exact hbd)).trans d0
    have d1' := (HBW.out.cell (by rw [add_block]; exact hbd)).trans d1
    have d2' := (HBW.out.cell (by rw [add_block]; exact hbd)).trans d2
    have HFu := Lib.hid (show furF b g = if x ∈ c.fr then c.to else [x] from by unfold furF; rw [last_at hk hx]; dsimp only; rw [show g.length - 1 = k from by omega, hc])
    have HTo := Lib.hid ht0
    have HX := Lib.hid hx
    have HK := Lib.hid hk
    have hb8 := below_new (w := w.alloc (.cells #[.slice Av (vers b).length cv, .slice (some ad) b.chs.length c2] 67)) (.cells #[.int .i64 c.yr, .slice Af c.fr.length cf, .slice At c.to.length ct] 52)
    have hn8 := World.alloc_heap_new (w.alloc (.cells #[.slice Av (vers b).length cv, .slice (some ad) b.chs.length c2] 67)) (.cells #[.int .i64 c.yr, .slice Af c.fr.length cf, .slice At c.to.length ct] 52)
    have hcx8 := (hb8.cell (p := ⟨gB, k, none⟩) hbd2).trans hcx
    have HHas := Lib.hid (has_any _ c.fr x _ (((hf0.below HBW.out).mono (Nat.le_trans hW.size HB0.out.size)).step (hb8.trans (Below.refl _ _).drew)) g3.ifr (by omega))
    have HB8 := Lib.hid (HB0.out.trans (hb8.mono HB0.out.size))
    obtain ⟨k0, k1⟩ := cells_two HN0.out
    clear h1 h2 hb0 hg h0 hW hs hval hf0 ht0 hc g3 hlf hx hb8 hcx d0 d1 d2 HN0 HBW HCh HG hbd hbd2 hz
    rw [hk] at hgl hcap ⊢
    generalize hW1 : w.alloc (.cells #[.slice Av (vers b).length cv, .slice (some ad) b.chs.length c2] 67) = W1 at *
    generalize hW8 : W1.alloc (.cells #[.int .i64 c.yr, .slice Af c.fr.length cf, .slice At c.to.length ct] 52) = W8 at *
    obtain ⟨x0, x1, x2⟩ := cells_three hn8
    generalize (vers b).length = vl at *
    generalize b.chs.length = len at *
    by_cases hxf : x ∈ c.fr
    · rw [decide_eq_true hxf] at HHas
      rw [if_pos hxf] at HFu
      go_enter Try.func118, Try.ntmps118
      go_wp2_with fail
      have hkl : (k : Int) < (k : Int) + 1 := by omega
      refine wp_region_tail 6 (by kernel_rfl) (by kernel_rfl) ?_
      simp only [List.take_succ_cons, List.take_zero, List.drop_succ_cons, List.drop_zero]
      repeat still_step
      refine wpStill_nil ?_
      go_wp2_with fail
      refine HHas.out.mono ?_
      rintro e w3 ⟨rfl, rfl⟩
      have HB9 := Lib.hid HB8.out.drew
      clear HB8
      have y0 : W8.drew.cell? ⟨W1.heap.size, 0, none⟩ = some (.int .i64 c.yr) := x0
      have y1 : W8.drew.cell? ⟨W1.heap.size, 1, none⟩ = some (.slice Af c.fr.length cf) := x1
      have y2 : W8.drew.cell? ⟨W1.heap.size, 2, none⟩ = some (.slice At c.to.length ct) := x2
      clear x0 x1 x2 HHas
      generalize W8.drew = W9 at *
      go_wp2_with fail
      go_ret
      exact ⟨⟨_, rfl, .inl (by rw [HFu.out]; exact HTo.out)⟩, HB9.out⟩
    · rw [decide_eq_false hxf] at HHas
      rw [if_neg hxf] at HFu
      go_enter Try.func118, Try.ntmps118
      go_wp2_with fail
      have hkl : (k : Int) < (k : Int) + 1 := by omega
      refine wp_region_tail 6 (by kernel_rfl) (by kernel_rfl) ?_
      simp only [List.take_succ_cons, List.take_zero, List.drop_succ_cons, List.drop_zero]
      repeat still_step
      refine wpStill_nil ?_
      go_wp2_with fail
      refine HHas.out.mono ?_
      rintro e w3 ⟨rfl, rfl⟩
      have HB9 := Lib.hid HB8.out.drew
      clear HB8
      have y0 : W8.drew.cell? ⟨W1.heap.size, 0, none⟩ = some (.int .i64 c.yr) := x0
      have y1 : W8.drew.cell? ⟨W1.heap.size, 1, none⟩ = some (.slice Af c.fr.length cf) := x1
      have y2 : W8.drew.cell? ⟨W1.heap.size, 2, none⟩ = some (.slice At c.to.length ct) := x2
      clear x0 x1 x2 HHas
      generalize W8.drew = W9 at *
      go_wp2_with fail
      go_ret
      exact ⟨⟨_, rfl, .inr ⟨k, _, x, rfl, rfl, by omega, HFu.out, HX.out⟩⟩, HB9.out⟩
end Go.Proofs.Ytplpogonkfnafaa
