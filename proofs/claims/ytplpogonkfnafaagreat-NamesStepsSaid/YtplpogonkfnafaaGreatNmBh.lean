
/- sample, awake. -/
import Derived.Test.YtplpogonkfnafaaGreatNmBg
import Derived.Test.YtplpogonkfnafaaGreatNmBd
import Derived.Test.YtplpogonkfnafaaGreatNmBc
import Derived.Test.YtplpogonkfnafaaGreatNmBe
namespace Go.Proofs.YtplpogonkfnafaaGreat
open Go.RowKit Go.Nm

def smp : Bk := ⟨[1, 2, 3], [⟨5, [2], [4, 5]⟩, ⟨8, [3, 4], [3]⟩]⟩
theorem heap_al (X : World) (o : Obj) : (X.alloc o).heap = X.heap.push o := rfl
/-- a literal of numbers in a block -/
theorem lit_sl {w : World} {g n : Nat} {L : List Int} {cs : Array Value} {t : TypeId} (h : w.heap[g]? = some (.cells cs t)) (hc : cs = (intsV L).toArray) (hn : n = L.length) (hm : n ≤ 1000) : InSl w w.heap.size (.slice (some ⟨g, 0, none⟩) n n) L :=
  ⟨_, n, by rw [hn], by omega, by unfold maxLen; omega, fun i x hx => ⟨_, rfl, (Array.getElem?_eq_some_iff.1 h).1, by
    rw [off_add]
    subst hc
    simp [World.cell?, h, intsV, hx]⟩⟩
set_option maxRecDepth 100000 in
set_option maxHeartbeats 4000000 in
theorem sample_any (w : World) : Calls Tryz.prog 14 #[] w fun e w' => (∃ A1 A2, e = .returned (.agg #[.slice A1 3 3, .slice A2 2 2]) ∧ BkV w' (.agg #[.slice A1 3 3, .slice A2 2 2]) smp (.slice A2 2 2)) ∧ Below w.heap.size w w' := by
  go_enter Tryz.func14, Tryz.ntmps14
  go_wp2_with fail
  generalize hc0 : Obj.cells #[Value.slice (some { block := w.heap.size + 1, off := 0 }) 3 3, Value.slice (some { block := w.heap.size + 1 + 1 + 1 + 1 + 1 + 1, off := 0 }) 2 2] 25 = c0
  generalize hc1 : Obj.cells #[Value.int IntKind.i64 1, Value.int IntKind.i64 2, Value.int IntKind.i64 3] 3 = c1
  generalize hc2 : Obj.cells #[Value.int IntKind.i64 2] 3 = c2
  generalize hc3 : Obj.cells #[Value.int IntKind.i64 4, Value.int IntKind.i64 5] 3 = c3
  generalize hc4 : Obj.cells #[Value.int IntKind.i64 3, Value.int IntKind.i64 4] 3 = c4
  generalize hc5 : Obj.cells #[Value.int IntKind.i64 3] 3 = c5
  generalize hc6 : Obj.cells #[Value.int IntKind.i64 5, Value.slice (some { block := w.heap.size + 1 + 1, off := 0 }) 1 1, Value.slice (some { block := w.heap.size + 1 + 1 + 1, off := 0 }) 2 2, Value.int IntKind.i64 8, Value.slice (some { block := w.heap.size + 1 + 1 + 1 + 1, off := 0 }) 2 2, Value.slice (some { block := w.heap.size + 1 + 1 + 1 + 1 + 1, off := 0 }) 1 1] 52 = c6
  have hW : ∃ W, ((((((w.alloc c0).alloc c1).alloc c2).alloc c3).alloc c4).alloc c5).alloc c6 = W := ⟨_, rfl⟩
  obtain ⟨W, hW⟩ := hW
  have hb : Below w.heap.size w W := by rw [← hW]; exact ((((((((Below.refl _ _).alloc (by simp) _).alloc (by simp; try omega) _).alloc (by simp; try omega) _).alloc (by simp; try omega) _).alloc (by simp; try omega) _).alloc (by simp; try omega) _).alloc (by simp; try omega) _)
  have h0 : W.heap[w.heap.size]? = some c0 := by rw [← hW]; simp only [heap_al, Array.getElem?_push, Array.size_push]; (repeat rw [if_neg (by omega)]); exact if_pos trivial
  have h1 : W.heap[w.heap.size + 1]? = some c1 := by rw [← hW]; simp only [heap_al, Array.getElem?_push, Array.size_push]; (repeat rw [if_neg (by omega)]); exact if_pos trivial
  have h2 : W.heap[w.heap.size + 1 + 1]? = some c2 := by rw [← hW]; simp only [heap_al, Array.getElem?_push, Array.size_push]; (repeat rw [if_neg (by omega)]); exact if_pos trivial
  have h3 : W.heap[w.heap.size + 1 + 1 + 1]? = some c3 := by rw [← hW]; simp only [heap_al, Array.getElem?_push, Array.size_push]; (repeat rw [if_neg (by omega)]); exact if_pos trivial
  have h4 : W.heap[w.heap.size + 1 + 1 + 1 + 1]? = some c4 := by rw [← hW]; simp only [heap_al, Array.getElem?_push, Array.size_push]; (repeat rw [if_neg (by omega)]); exact if_pos trivial
  have h5 : W.heap[w.heap.size + 1 + 1 + 1 + 1 + 1]? = some c5 := by rw [← hW]; simp only [heap_al, Array.getElem?_push, Array.size_push]; (repeat rw [if_neg (by omega)]); exact if_pos trivial
  have h6 : W.heap[w.heap.size + 1 + 1 + 1 + 1 + 1 + 1]? = some c6 := by rw [← hW]; simp only [heap_al, Array.getElem?_push, Array.size_push]; (repeat rw [if_neg (by omega)]); exact if_pos trivial
  rw [hW]
  subst hc0 hc1 hc2 hc3 hc4 hc5 hc6
  clear hW
  obtain ⟨r0, r1⟩ := cells_two h0
  have f0 := frozen_cells h0
  refine bodyPost_ret (v := .agg #[.slice (some { block := w.heap.size + 1, off := 0 }) 3 3, .slice (some { block := w.heap.size + 1 + 1 + 1 + 1 + 1 + 1, off := 0 }) 2 2]) (by simp [results, Tryz.results14, go_sem, r0, r1]) rfl ⟨⟨_, _, rfl, _, rfl, lit_sl h1 rfl rfl (by omega), _, 2, rfl, ?_⟩, hb⟩
  intro i x hx
  have hlt := (Array.getElem?_eq_some_iff.1 h6).1
  match i, hx with
  | 0, hx =>
    injection hx with hx
    subst hx
    exact ⟨_, _, _, rfl, hlt, by simp [World.cell?, h6, Addr.add], by simp [World.cell?, h6, Addr.add], by simp [World.cell?, h6, Addr.add], lit_sl h2 rfl rfl (by decide), lit_sl h3 rfl rfl (by decide)⟩
  | 1, hx =>
    injection hx with hx
    subst hx
    exact ⟨_, _, _, rfl, hlt, by simp [World.cell?, h6, Addr.add], by simp [World.cell?, h6, Addr.add], by simp [World.cell?, h6, Addr.add], lit_sl h4 rfl rfl (by decide), lit_sl h5 rfl rfl (by decide)⟩
end Go.Proofs.YtplpogonkfnafaaGreat
namespace Go.Proofs.YtplpogonkfnafaaGreat
open Go.RowKit Go.Nm

theorem smp_sm : Sm smp := by
  refine ⟨by decide, by decide, fun x hx => ?_⟩
  simp only [smp, List.mem_cons, List.not_mem_nil, or_false] at hx
  rcases hx with rfl | rfl <;> decide
theorem smp_names : namesOut smp 2 = ([1, 3, 5], 0) := by decide +kernel
theorem smp_fates : fatesOut smp = ([[1, 1, 1], [2, 4, 3], [2, 5, 5], [3, 3, 3]], 0) := by decide +kernel
theorem smp_means : meansOut smp 2 3 0 = ([2, 3], 0) := by decide +kernel
theorem smp_rel : relOut smp 0 2 2 3 = (4, 0) := by decide +kernel
theorem smp_ex : exOut smp 0 2 2 = (0, 3) := by decide +kernel
theorem smp_chain : chainOut smp 0 2 = ([0, 1], 0) := by decide +kernel
theorem smp_all : (allF smp).length ≤ 100000 := by decide +kernel
theorem lit_four (w : World) : ∀ W, ((((w.alloc (.cells #[.int .i64 1, .int .i64 1, .int .i64 1] 3)).alloc (.cells #[.int .i64 2, .int .i64 4, .int .i64 3] 3)).alloc (.cells #[.int .i64 2, .int .i64 5, .int .i64 5] 3)).alloc (.cells #[.int .i64 3, .int .i64 3, .int .i64 3] 3)).alloc
      (.cells #[.slice (some ⟨w.heap.size, 0, none⟩) 3 3, .slice (some ⟨w.heap.size + 1, 0, none⟩) 3 3, .slice (some ⟨w.heap.size + 1 + 1, 0, none⟩) 3 3, .slice (some ⟨w.heap.size + 1 + 1 + 1, 0, none⟩) 3 3] 22) = W →
    Below w.heap.size w W ∧ VsSl W W.heap.size (.slice (some ⟨w.heap.size + 1 + 1 + 1 + 1, 0, none⟩) 4 4) [[1, 1, 1], [2, 4, 3], [2, 5, 5], [3, 3, 3]] := by
  intro W hW
  have hb : Below w.heap.size w W := by rw [← hW]; exact ((((((Below.refl _ _).alloc (by simp) _).alloc (by simp; try omega) _).alloc (by simp; try omega) _).alloc (by simp; try omega) _).alloc (by simp; try omega) _)
  have h0 : W.heap[w.heap.size]? = some (.cells #[.int .i64 1, .int .i64 1, .int .i64 1] 3) := by rw [← hW]; simp only [heap_al, Array.getElem?_push, Array.size_push]; (repeat rw [if_neg (by omega)]); exact if_pos trivial
  have h1 : W.heap[w.heap.size + 1]? = some (.cells #[.int .i64 2, .int .i64 4, .int .i64 3] 3) := by rw [← hW]; simp only [heap_al, Array.getElem?_push, Array.size_push]; (repeat rw [if_neg (by omega)]); exact if_pos trivial
  have h2 : W.heap[w.heap.size + 1 + 1]? = some (.cells #[.int .i64 2, .int .i64 5, .int .i64 5] 3) := by rw [← hW]; simp only [heap_al, Array.getElem?_push, Array.size_push]; (repeat rw [if_neg (by omega)]); exact if_pos trivial
  have h3 : W.heap[w.heap.size + 1 + 1 + 1]? = some (.cells #[.int .i64 3, .int .i64 3, .int .i64 3] 3) := by rw [← hW]; simp only [heap_al, Array.getElem?_push, Array.size_push]; (repeat rw [if_neg (by omega)]); exact if_pos trivial
  have h4 : W.heap[w.heap.size + 1 + 1 + 1 + 1]? = some (.cells #[.slice (some ⟨w.heap.size, 0, none⟩) 3 3, .slice (some ⟨w.heap.size + 1, 0, none⟩) 3 3, .slice (some ⟨w.heap.size + 1 + 1, 0, none⟩) 3 3, .slice (some ⟨w.heap.size + 1 + 1 + 1, 0, none⟩) 3 3] 22) := by rw [← hW]; simp only [heap_al, Array.getElem?_push, Array.size_push]; exact if_pos trivial
  refine ⟨hb, _, 4, [.slice (some ⟨w.heap.size, 0, none⟩) 3 3, .slice (some ⟨w.heap.size + 1, 0, none⟩) 3 3, .slice (some ⟨w.heap.size + 1 + 1, 0, none⟩) 3 3, .slice (some ⟨w.heap.size + 1 + 1 + 1, 0, none⟩) 3 3], rfl, ⟨rfl, fun i u L hu hL => ?_⟩, fun i u hu => ⟨_, rfl, (Array.getElem?_eq_some_iff.1 h4).1, ?_⟩⟩
  · match i, hu, hL with
    | 0, hu, hL => injection hu with hu; injection hL with hL; subst hu; subst hL; exact lit_sl h0 rfl rfl (by decide)
    | 1, hu, hL => injection hu with hu; injection hL with hL; subst hu; subst hL; exact lit_sl h1 rfl rfl (by decide)
    | 2, hu, hL => injection hu with hu; injection hL with hL; subst hu; subst hL; exact lit_sl h2 rfl rfl (by decide)
    | 3, hu, hL => injection hu with hu; injection hL with hL; subst hu; subst hL; exact lit_sl h3 rfl rfl (by decide)
  · rw [off_add]
    simp only [World.cell?, h4]
    simpa using hu
set_option maxRecDepth 100000 in
set_option maxHeartbeats 8000000 in
theorem awake_any (w : World) : Calls Tryz.prog 4 #[] w fun e w' => e = .returned (.bool true) ∧ Below w.heap.size w w' := by
  have HS0 := Lib.hid (sample_any w)
  go_enter Tryz.func4, Tryz.ntmps4
  go_wp2_with fail
  (with_reducible refine HS0.out.mono ?_)
  rintro e w1 ⟨⟨A1, A2, rfl, hB⟩, hb⟩
  have hb1 := below_new (w := w1) (.cells #[.slice A1 3 3, .slice A2 2 2] 25)
  have HB1 := Lib.hid (hB.step hb1)
  have HW1 := Lib.hid (hb.trans (hb1.mono hb.size))
  have HN1 := Lib.hid (World.alloc_heap_new w1 (.cells #[.slice A1 3 3, .slice A2 2 2] 25))
  clear hB hb hb1
  obtain ⟨W1, hW1⟩ : ∃ X, w1.alloc (.cells #[.slice A1 3 3, .slice A2 2 2] 25) = X := ⟨_, rfl⟩
  rw [hW1] at HB1 HW1 HN1
  obtain ⟨k0, k1⟩ := cells_two HN1.out
  have HC := Lib.hid (Names_any _ _ smp 2 W1 HB1.out smp_sm)
  rw [smp_names] at HC
  go_wp2_with fail
  (with_reducible refine HC.out.mono ?_)
  rintro e w2 ⟨⟨u1, rfl, hu1⟩, hb⟩
  have HB2 := Lib.hid (HB1.out.step hb)
  have HW2 := Lib.hid (And.intro hb (HW1.out.trans (hb.mono HW1.out.size)))
  have HU1 := Lib.hid hu1
  obtain ⟨B1, d1, rfl, _⟩ := hu1.form
  have j0 := (hb.cell (p := ⟨w1.heap.size, 0, none⟩) (Array.getElem?_eq_some_iff.1 HN1.out).1).trans k0
  have j1 := (hb.cell (p := ⟨w1.heap.size, 1, none⟩) (Array.getElem?_eq_some_iff.1 HN1.out).1).trans k1
  clear hu1 hb HC k0 k1 HB1
  have HC := Lib.hid (Fates_any _ _ smp w2 HB2.out smp_sm (fun _ _ => smp_all))
  rw [smp_fates] at HC
  go_wp2_with fail
  (with_reducible refine HC.out.mono ?_)
  rintro e w3 ⟨⟨u2, rfl, hu2⟩, hb⟩
  have HB3 := Lib.hid (HB2.out.step hb)
  have HW3 := Lib.hid (And.intro (HW2.out.1.trans (hb.mono HW2.out.1.size)) (HW2.out.2.trans (hb.mono HW2.out.2.size)))
  have HU2 := Lib.hid (And.intro (HU1.out.step hb) hu2)
  obtain ⟨B2, d2, rfl⟩ := hu2.form
  have k0 := (hb.cell (p := ⟨w1.heap.size, 0, none⟩) (Nat.lt_of_lt_of_le (Array.getElem?_eq_some_iff.1 HN1.out).1 HW2.out.1.size)).trans j0
  have k1 := (hb.cell (p := ⟨w1.heap.size, 1, none⟩) (Nat.lt_of_lt_of_le (Array.getElem?_eq_some_iff.1 HN1.out).1 HW2.out.1.size)).trans j1
  clear hu2 hb HC j0 j1 HB2 HU1 HW2
  have HC := Lib.hid (Means_any _ _ smp 2 3 0 w3 HB3.out smp_sm)
  rw [smp_means] at HC
  go_wp2_with fail
  (with_reducible refine HC.out.mono ?_)
  rintro e w4 ⟨⟨u3, rfl, hu3⟩, hb⟩
  have HB4 := Lib.hid (HB3.out.step hb)
  have HW4 := Lib.hid (And.intro (HW3.out.1.trans (hb.mono HW3.out.1.size)) (HW3.out.2.trans (hb.mono HW3.out.2.size)))
  have HU3 := Lib.hid (And.intro (HU2.out.1.step hb) (And.intro ((HU2.out.2.below hb).mono hb.size) hu3))
  obtain ⟨B3, d3, rfl, _⟩ := hu3.form
  have j0 := (hb.cell (p := ⟨w1.heap.size, 0, none⟩) (Nat.lt_of_lt_of_le (Array.getElem?_eq_some_iff.1 HN1.out).1 HW3.out.1.size)).trans k0
  have j1 := (hb.cell (p := ⟨w1.heap.size, 1, none⟩) (Nat.lt_of_lt_of_le (Array.getElem?_eq_some_iff.1 HN1.out).1 HW3.out.1.size)).trans k1
  clear hu3 hb HC k0 k1 HB3 HU2 HW3
  have HC := Lib.hid (Relate_any _ _ smp 0 2 2 3 w4 HB4.out smp_sm)
  rw [smp_rel] at HC
  go_wp2_with fail
  (with_reducible refine HC.out.mono ?_)
  rintro e w5 ⟨rfl, hb⟩
  have HB5 := Lib.hid (HB4.out.step hb)
  have HW5 := Lib.hid (And.intro (HW4.out.1.trans (hb.mono HW4.out.1.size)) (HW4.out.2.trans (hb.mono HW4.out.2.size)))
  have HU4 := Lib.hid (And.intro (HU3.out.1.step hb) (And.intro ((HU3.out.2.1.below hb).mono hb.size) (HU3.out.2.2.step hb)))
  have k0 := (hb.cell (p := ⟨w1.heap.size, 0, none⟩) (Nat.lt_of_lt_of_le (Array.getElem?_eq_some_iff.1 HN1.out).1 HW4.out.1.size)).trans j0
  have k1 := (hb.cell (p := ⟨w1.heap.size, 1, none⟩) (Nat.lt_of_lt_of_le (Array.getElem?_eq_some_iff.1 HN1.out).1 HW4.out.1.size)).trans j1
  clear hb HC j0 j1 HB4 HU3 HW4
  have HC := Lib.hid (Exact_any _ _ smp 0 2 2 w5 HB5.out smp_sm)
  rw [smp_ex] at HC
  go_wp2_with fail
  (with_reducible refine HC.out.mono ?_)
  rintro e w6 ⟨rfl, hb⟩
  have HB6 := Lib.hid (HB5.out.step hb)
  have HW6 := Lib.hid (And.intro (HW5.out.1.trans (hb.mono HW5.out.1.size)) (HW5.out.2.trans (hb.mono HW5.out.2.size)))
  have HU5 := Lib.hid (And.intro (HU4.out.1.step hb) (And.intro ((HU4.out.2.1.below hb).mono hb.size) (HU4.out.2.2.step hb)))
  have j0 := (hb.cell (p := ⟨w1.heap.size, 0, none⟩) (Nat.lt_of_lt_of_le (Array.getElem?_eq_some_iff.1 HN1.out).1 HW5.out.1.size)).trans k0
  have j1 := (hb.cell (p := ⟨w1.heap.size, 1, none⟩) (Nat.lt_of_lt_of_le (Array.getElem?_eq_some_iff.1 HN1.out).1 HW5.out.1.size)).trans k1
  clear hb HC k0 k1 HB5 HU4 HW5
  have HC := Lib.hid (Chain_any _ _ smp 0 2 w6 HB6.out smp_sm)
  rw [smp_chain] at HC
  go_wp2_with fail
  (with_reducible refine HC.out.mono ?_)
  rintro e w7 ⟨⟨u4, rfl, hu4⟩, hb⟩
  have HW7 := Lib.hid (HW6.out.2.trans (hb.mono HW6.out.2.size))
  have HU6 := Lib.hid (And.intro (HU5.out.1.step hb) (And.intro ((HU5.out.2.1.below hb).mono hb.size) (And.intro (HU5.out.2.2.step hb) hu4)))
  obtain ⟨B4, d4, rfl, _⟩ := hu4.form
  clear hu4 hb HC j0 j1 HB6 HU5 HW6 HN1 hW1
  have hn := below_new (w := w7) (.cells #[.int .i64 1, .int .i64 3, .int .i64 5] 3)
  have HC := Lib.hid (SameInts_any _ _ [1, 3, 5] [1, 3, 5] _ (HU6.out.1.step hn) (lit_sl (L := [1, 3, 5]) (World.alloc_heap_new w7 (.cells #[.int .i64 1, .int .i64 3, .int .i64 5] 3)) rfl rfl (by decide)) (by decide) (by decide))
  have HW8 := Lib.hid (HW7.out.trans (hn.mono HW7.out.size))
  have HU7 := Lib.hid (And.intro ((HU6.out.2.1.below hn).mono hn.size) (And.intro (HU6.out.2.2.1.step hn) (HU6.out.2.2.2.step hn)))
  clear hn HU6 HW7
  go_wp2_with fail
  refine HC.out.mono ?_
  rintro e w9 ⟨rfl, hb⟩
  have HW9 := Lib.hid (HW8.out.trans (hb.mono HW8.out.size))
  have HU8 := Lib.hid (And.intro ((HU7.out.1.below hb).mono hb.size) (And.intro (HU7.out.2.1.step hb) (HU7.out.2.2.step hb)))
  clear hb HC HU7 HW8
  go_wp2_with fail
  have h4 := lit_four w9 _ rfl
  have HC := Lib.hid (SameLists_any _ _ [[1, 1, 1], [2, 4, 3], [2, 5, 5], [3, 3, 3]] [[1, 1, 1], [2, 4, 3], [2, 5, 5], [3, 3, 3]] _ ((HU8.out.1.below h4.1).mono h4.1.size) h4.2 (by decide) (by decide) (by decide))
  have HW10 := Lib.hid (HW9.out.trans (h4.1.mono HW9.out.size))
  have HU9 := Lib.hid (And.intro (HU8.out.2.1.step h4.1) (HU8.out.2.2.step h4.1))
  clear h4 HU8 HW9
  refine HC.out.mono ?_
  rintro e w11 ⟨rfl, hb⟩
  have HW11 := Lib.hid (HW10.out.trans (hb.mono HW10.out.size))
  have HU10 := Lib.hid (And.intro (HU9.out.1.step hb) (HU9.out.2.step hb))
  clear hb HC HU9 HW10
  have hn := below_new (w := w11) (.cells #[.int .i64 2, .int .i64 3] 3)
  have HC := Lib.hid (SameInts_any _ _ [2, 3] [2, 3] _ (HU10.out.1.step hn) (lit_sl (L := [2, 3]) (World.alloc_heap_new w11 (.cells #[.int .i64 2, .int .i64 3] 3)) rfl rfl (by decide)) (by decide) (by decide))
  have HW12 := Lib.hid (HW11.out.trans (hn.mono HW11.out.size))
  have HU11 := Lib.hid (HU10.out.2.step hn)
  clear hn HU10 HW11
  go_wp2_with fail
  refine HC.out.mono ?_
  rintro e w13 ⟨rfl, hb⟩
  have HW13 := Lib.hid (HW12.out.trans (hb.mono HW12.out.size))
  have HU12 := Lib.hid (HU11.out.step hb)
  clear hb HC HU11 HW12
  have hn := below_new (w := w13) (.cells #[.int .i64 0, .int .i64 1] 3)
  have HC := Lib.hid (SameInts_any _ _ [0, 1] [0, 1] _ (HU12.out.step hn) (lit_sl (L := [0, 1]) (World.alloc_heap_new w13 (.cells #[.int .i64 0, .int .i64 1] 3)) rfl rfl (by decide)) (by decide) (by decide))
  have HW14 := Lib.hid (HW13.out.trans (hn.mono HW13.out.size))
  clear hn HU12 HW13
  go_wp2_with fail
  refine HC.out.mono ?_
  rintro e w15 ⟨rfl, hb⟩
  have HW15 := Lib.hid (HW14.out.trans (hb.mono HW14.out.size))
  clear hb HC HW14
  go_wp2_with fail
  go_ret
  exact ⟨rfl, HW15.out⟩
end Go.Proofs.YtplpogonkfnafaaGreat
