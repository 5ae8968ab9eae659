/- SameKey of equal keys; the key of the examples. -/
import Derived.Test.YthfegbcbpeedbaaDoorKyOx
namespace Go.Ky
def sampleK : Kx := ⟨[⟨0, [1, -2]⟩, ⟨1, [-1, -3, -4]⟩], [[10], [20], [10, 30], [30]]⟩
def badK : Kx := ⟨[⟨0, [1, -2]⟩, ⟨1, [-1, -3, -4]⟩], [[10], [20], [10], [30]]⟩
def wantK : Kx := ⟨[⟨0, [1, -4]⟩, ⟨1, [-1, -2, -3]⟩], [[10], [10, 30], [30], [20]]⟩
end Go.Ky
namespace Go.Proofs.YthfegbcbpeedbaaDoor
open Go.RowKit Go.Nm Go.Ky

set_option maxRecDepth 100000 in
set_option maxHeartbeats 8000000 in
theorem SameKeyT_any (u v : Value) (k : Kx) (w : World) (hu : KyV w u k) (hv : KyV w v k) (hk : KSm k) :
    Calls Tryd.prog 49 #[u, v] w fun e w' => e = .returned (.bool true) ∧ Below w.heap.size w w' := by
  obtain ⟨A1, c1, A2, c2, W0, rfl, hW0, hb0, hK, hNd, hV, hX⟩ := ky_box hu
  have hz : W0.heap.size = w.heap.size + 1 := by rw [← hW0]; simp
  obtain ⟨B1, d1, B2, d2, W1, rfl, hW1, hb1, hK2, hNd2, hV2, hX2⟩ := ky_box (hv.step hb0)
  rw [hz] at hX2
  have HW := Lib.hid (And.intro hW0 hW1)
  have HB1 := Lib.hid (hb0.trans (hb1.mono hb0.size))
  have HX := Lib.hid (fun Y (h : Below W1.heap.size W1 Y) => And.intro (hX Y (hb1.trans (h.mono hb1.size))) (hX2 Y h))
  have HU := Lib.hid (hNd W1 hb1)
  have HV := Lib.hid (hNd2 W1 (Below.refl _ _))
  have hd : decide (k.lv = k.lv) = true := by simp
  have hsl := fun Y (h : Below W1.heap.size W1 Y) => SameLists_any _ _ k.lv k.lv Y (hV Y (hb1.trans (h.mono hb1.size))) (hV2 Y h) (by have := hk.2.1; omega) (fun l hl => by have := hk.2.2.2 l hl; omega) (fun l hl => by have := hk.2.2.2 l hl; omega)
  rw [hd] at hsl
  have HSL := Lib.hid hsl
  have HMy := Lib.hid hk.2.2.1
  have hn1 : k.nd.length ≤ 2000 := hk.1
  obtain ⟨n, hn⟩ : ∃ n, k.nd.length = n := ⟨_, rfl⟩
  rw [hn] at HW HX HU HV hn1 ⊢
  obtain ⟨⟨k0, k1⟩, k2, k3⟩ := HX.out W1 (Below.refl _ _)
  generalize k.lv.length = nl at *
  have hq : ((n : Int) != (n : Int)) = false := by simp
  clear hu hv hk hW0 hb0 hK hNd hV hX hz hW1 hb1 hK2 hNd2 hV2 hX2 hd hsl hn
  go_enter Tryd.func49, Tryd.ntmps49
  go_wp2_with fail
  rw [HW.out.1, HW.out.2]
  (try go_wp2_with fail)
  (with_reducible refine (HSL.out W1 (Below.refl _ _)).mono ?_)
  rintro e w1 ⟨rfl, hb⟩
  have HB2 := Lib.hid hb
  clear hb k0 k1 k2 k3
  go_wp2_with fail
  go_loopw [5] (fun iv wr => ∃ i : Nat, iv = .int .i64 (i : Int) ∧ i ≤ n ∧ Below W1.heap.size W1 wr) (fun iv _ => n - (intOf iv).toNat)
  case atStart => exact ⟨0, rfl, by omega, HB2.out⟩
  case round =>
    obtain ⟨i, rfl, hin, hb⟩ := hrel
    have HB := Lib.hid hb
    clear hb
    obtain ⟨⟨k0, k1⟩, k2, k3⟩ := HX.out wr HB.out
    by_cases hlt : i < n
    · obtain ⟨r, ad, Am, cm, hr, rfl, hY⟩ := HU.out.at_ hlt
      obtain ⟨r2, ad2, Am2, cm2, hr2, rfl, hY2⟩ := HV.out.at_ hlt
      rw [hr] at hr2
      injection hr2 with hr2
      subst hr2
      have hrl := HMy.out r (List.mem_of_getElem? hr)
      have hz : ∀ z : Wb wr, Below W1.heap.size W1 z.v := fun z => HB.out.trans (z.h.mono HB.out.size)
      have hsi := fun z : Wb wr => SameInts_any _ _ r.may r.may z.v (hY z.v (hz z)).2 (hY2 z.v (hz z)).2 (by omega) (by omega)
      rw [show decide (r.may = r.may) = true from by simp] at hsi
      have HSI := Lib.hid hsi
      have ss := fun z : Wb wr => And.intro (HX.out z.v (hz z)) (And.intro (hY z.v (hz z)).1 (hY2 z.v (hz z)).1)
      have hq2 : (r.nm != r.nm) = false := by simp
      generalize r.nm = rn at *
      generalize r.may.length = rl at *
      clear hr hsi hY hY2 hz k1 k3 k2
      go_wp2_with fail
      refine wp_region_wb (by kernel_rfl) (by kernel_rfl) ?_; (repeat ((with_reducible refine wpQuiet_step ?_); intro K hK; go_simp; (try (refine ite_neg_of (by simp [undef]) ?_)); first | (with_reducible refine hK _ ?_; clear hK K) | (apply Exists.intro; (with_reducible refine ⟨fun _ => ?_, hK _ ?_⟩); ((go_at_call 25; exact Calls.wb (HSI.out _))); clear hK K))); (with_reducible refine wpQuiet_nil ?_); rintro w1 ⟨⟨_, hb1⟩, rfl⟩; (try dsimp only)
      have HB3 := Lib.hid (HB.out.trans (hb1.mono HB.out.size))
      clear hb1 ss k0
      go_wp2_with fail
      go_roundw
      case rel => exact ⟨i + 1, by go_num, by omega, HB3.out⟩
      case measure => simp [intOf]; try omega
    · obtain rfl : n = i := by omega
      go_wp2_with fail
      go_ret
      exact ⟨rfl, HB1.out.trans (HB.out.mono HB1.out.size)⟩
theorem ints_sl {X : World} {g n B : Nat} {cs : Array Value} {L : List Int} (h : X.heap[g]? = some (.cells cs 3)) (hl : L.length = n) (hn : n ≤ 1000) (hc : cs = (L.map (Value.int .i64)).toArray) (hB : g < B) : InSl X B (.slice (some ⟨g, 0, none⟩) n n) L := by
  subst hc
  exact ⟨some ⟨g, 0, none⟩, n, by rw [hl], by omega, by unfold maxLen; omega, fun i x hx => ⟨_, rfl, hB, by rw [add_zero_k]; simp only [World.cell?, h]; simp [hx]⟩⟩
theorem two_nodes {X : World} {g B : Nat} {a b : Rw} {va vb : Value} (h : X.heap[g]? = some (.cells #[.int .i64 a.nm, va, .int .i64 b.nm, vb] 65)) (hB : g < B) (ha : InSl X B va a.may) (hb : InSl X B vb b.may) : IlSl X B (.slice (some ⟨g, 0, none⟩) 2 2) [a, b] := by
  refine ⟨some ⟨g, 0, none⟩, 2, rfl, fun i x hx => ?_⟩
  have hi := (List.getElem?_eq_some_iff.1 hx).1
  rcases (show i = 0 ∨ i = 1 by simp at hi; omega) with rfl | rfl
  · simp at hx; subst hx; exact ⟨_, va, rfl, hB, by rw [add_zero_k]; simp [World.cell?, h], by rw [add_zero_k]; simp [World.cell?, h], ha⟩
  · simp at hx; subst hx; exact ⟨_, vb, rfl, hB, by rw [add_zero_k]; simp [World.cell?, h], by rw [add_zero_k]; simp [World.cell?, h], hb⟩
theorem four_lists {X : World} {g : Nat} {a b c d : List Int} {va vb vc vd : Value} (h : X.heap[g]? = some (.cells #[va, vb, vc, vd] 22)) (ha : InSl X X.heap.size va a) (hb : InSl X X.heap.size vb b) (hc : InSl X X.heap.size vc c) (hd : InSl X X.heap.size vd d) : VsSl X X.heap.size (.slice (some ⟨g, 0, none⟩) 4 4) [a, b, c, d] := by
  have hlt := (Array.getElem?_eq_some_iff.1 h).1
  refine ⟨some ⟨g, 0, none⟩, 4, [va, vb, vc, vd], rfl, ⟨rfl, fun i v L h1 h2 => ?_⟩, fun i u hu => ⟨_, rfl, hlt, ?_⟩⟩
  · have hi := (List.getElem?_eq_some_iff.1 h1).1
    rcases (show i = 0 ∨ i = 1 ∨ i = 2 ∨ i = 3 by simp at hi; omega) with rfl | rfl | rfl | rfl <;>
    · simp at h1 h2
      subst h1; subst h2
      assumption
  · rw [add_zero_k]
    simp only [World.cell?, h]
    simpa using hu
def KeyP (w w' : World) (v : Value) : Prop := ∃ vn gl va vb vc vd, v = .agg #[vn, .slice (some ⟨gl, 0, none⟩) 4 4] ∧ w.heap.size ≤ gl ∧ IlSl w' gl vn sampleK.nd ∧ w'.heap[gl]? = some (.cells #[va, vb, vc, vd] 22) ∧ InSl w' gl va [10] ∧ InSl w' gl vb [20] ∧ InSl w' gl vc [10, 30] ∧ InSl w' gl vd [30]
theorem KeyP.kyV {w w' : World} {v : Value} (h : KeyP w w' v) : KyV w' v sampleK := by
  obtain ⟨vn, gl, va, vb, vc, vd, e, h1, h2, h3, h4, h5, h6, h7⟩ := h
  have hl := Nat.le_of_lt (Array.getElem?_eq_some_iff.1 h3).1
  exact ⟨_, _, e, h2.mono hl, four_lists h3 (h4.mono hl) (h5.mono hl) (h6.mono hl) (h7.mono hl)⟩
set_option maxRecDepth 100000 in
set_option maxHeartbeats 8000000 in
theorem key_any (w : World) :
    Calls Tryd.prog 58 #[] w fun e w' => (∃ v, e = .returned v ∧ KeyP w w' v) ∧ Below w.heap.size w w' := by
  obtain ⟨W1, hW1⟩ : ∃ W, w.alloc (.cells #[.slice (some ⟨w.heap.size + 1 + 1 + 1, 0, none⟩) 2 2, .slice (some ⟨w.heap.size + 1 + 1 + 1 + 1 + 1 + 1 + 1 + 1, 0, none⟩) 4 4] 53) = W := ⟨_, rfl⟩
  have hb1 := below_new (w := w) (.cells #[.slice (some ⟨w.heap.size + 1 + 1 + 1, 0, none⟩) 2 2, .slice (some ⟨w.heap.size + 1 + 1 + 1 + 1 + 1 + 1 + 1 + 1, 0, none⟩) 4 4] 53)
  have hn1 := World.alloc_heap_new w (.cells #[.slice (some ⟨w.heap.size + 1 + 1 + 1, 0, none⟩) 2 2, .slice (some ⟨w.heap.size + 1 + 1 + 1 + 1 + 1 + 1 + 1 + 1, 0, none⟩) 4 4] 53)
  rw [hW1] at hb1 hn1
  have hz1 : W1.heap.size = w.heap.size + 1 := by rw [← hW1]; simp
  obtain ⟨W2, hW2⟩ : ∃ W, W1.alloc (.cells #[.int .i64 1, .int .i64 (-2)] 3) = W := ⟨_, rfl⟩
  have hb2 := below_new (w := W1) (.cells #[.int .i64 1, .int .i64 (-2)] 3)
  have hn2 := World.alloc_heap_new W1 (.cells #[.int .i64 1, .int .i64 (-2)] 3)
  rw [hW2] at hb2 hn2
  rw [hz1] at hn2
  have hz2 : W2.heap.size = w.heap.size + 1 + 1 := by rw [← hW2]; simp [hz1]
  have hn1 := (hb2.block _ (by omega)).trans hn1
  obtain ⟨W3, hW3⟩ : ∃ W, W2.alloc (.cells #[.int .i64 (-1), .int .i64 (-3), .int .i64 (-4)] 3) = W := ⟨_, rfl⟩
  have hb3 := below_new (w := W2) (.cells #[.int .i64 (-1), .int .i64 (-3), .int .i64 (-4)] 3)
  have hn3 := World.alloc_heap_new W2 (.cells #[.int .i64 (-1), .int .i64 (-3), .int .i64 (-4)] 3)
  rw [hW3] at hb3 hn3
  rw [hz2] at hn3
  have hz3 : W3.heap.size = w.heap.size + 1 + 1 + 1 := by rw [← hW3]; simp [hz2]
  have hn1 := (hb3.block _ (by omega)).trans hn1
  have hn2 := (hb3.block _ (by omega)).trans hn2
  obtain ⟨W4, hW4⟩ : ∃ W, W3.alloc (.cells #[.int .i64 0, .slice (some ⟨w.heap.size + 1, 0, none⟩) 2 2, .int .i64 1, .slice (some ⟨w.heap.size + 1 + 1, 0, none⟩) 3 3] 65) = W := ⟨_, rfl⟩
  have hb4 := below_new (w := W3) (.cells #[.int .i64 0, .slice (some ⟨w.heap.size + 1, 0, none⟩) 2 2, .int .i64 1, .slice (some ⟨w.heap.size + 1 + 1, 0, none⟩) 3 3] 65)
  have hn4 := World.alloc_heap_new W3 (.cells #[.int .i64 0, .slice (some ⟨w.heap.size + 1, 0, none⟩) 2 2, .int .i64 1, .slice (some ⟨w.heap.size + 1 + 1, 0, none⟩) 3 3] 65)
  rw [hW4] at hb4 hn4
  rw [hz3] at hn4
  have hz4 : W4.heap.size = w.heap.size + 1 + 1 + 1 + 1 := by rw [← hW4]; simp [hz3]
  have hn1 := (hb4.block _ (by omega)).trans hn1
  have hn2 := (hb4.block _ (by omega)).trans hn2
  have hn3 := (hb4.block _ (by omega)).trans hn3
  obtain ⟨W5, hW5⟩ : ∃ W, W4.alloc (.cells #[.int .i64 10] 3) = W := ⟨_, rfl⟩
  have hb5 := below_new (w := W4) (.cells #[.int .i64 10] 3)
  have hn5 := World.alloc_heap_new W4 (.cells #[.int .i64 10] 3)
  rw [hW5] at hb5 hn5
  rw [hz4] at hn5
  have hz5 : W5.heap.size = w.heap.size + 1 + 1 + 1 + 1 + 1 := by rw [← hW5]; simp [hz4]
  have hn1 := (hb5.block _ (by omega)).trans hn1
  have hn2 := (hb5.block _ (by omega)).trans hn2
  have hn3 := (hb5.block _ (by omega)).trans hn3
  have hn4 := (hb5.block _ (by omega)).trans hn4
  obtain ⟨W6, hW6⟩ : ∃ W, W5.alloc (.cells #[.int .i64 20] 3) = W := ⟨_, rfl⟩
  have hb6 := below_new (w := W5) (.cells #[.int .i64 20] 3)
  have hn6 := World.alloc_heap_new W5 (.cells #[.int .i64 20] 3)
  rw [hW6] at hb6 hn6
  rw [hz5] at hn6
  have hz6 : W6.heap.size = w.heap.size + 1 + 1 + 1 + 1 + 1 + 1 := by rw [← hW6]; simp [hz5]
  have hn1 := (hb6.block _ (by omega)).trans hn1
  have hn2 := (hb6.block _ (by omega)).trans hn2
  have hn3 := (hb6.block _ (by omega)).trans hn3
  have hn4 := (hb6.block _ (by omega)).trans hn4
  have hn5 := (hb6.block _ (by omega)).trans hn5
  obtain ⟨W7, hW7⟩ : ∃ W, W6.alloc (.cells #[.int .i64 10, .int .i64 30] 3) = W := ⟨_, rfl⟩
  have hb7 := below_new (w := W6) (.cells #[.int .i64 10, .int .i64 30] 3)
  have hn7 := World.alloc_heap_new W6 (.cells #[.int .i64 10, .int .i64 30] 3)
  rw [hW7] at hb7 hn7
  rw [hz6] at hn7
  have hz7 : W7.heap.size = w.heap.size + 1 + 1 + 1 + 1 + 1 + 1 + 1 := by rw [← hW7]; simp [hz6]
  have hn1 := (hb7.block _ (by omega)).trans hn1
  have hn2 := (hb7.block _ (by omega)).trans hn2
  have hn3 := (hb7.block _ (by omega)).trans hn3
  have hn4 := (hb7.block _ (by omega)).trans hn4
  have hn5 := (hb7.block _ (by omega)).trans hn5
  have hn6 := (hb7.block _ (by omega)).trans hn6
  obtain ⟨W8, hW8⟩ : ∃ W, W7.alloc (.cells #[.int .i64 30] 3) = W := ⟨_, rfl⟩
  have hb8 := below_new (w := W7) (.cells #[.int .i64 30] 3)
  have hn8 := World.alloc_heap_new W7 (.cells #[.int .i64 30] 3)
  rw [hW8] at hb8 hn8
  rw [hz7] at hn8
  have hz8 : W8.heap.size = w.heap.size + 1 + 1 + 1 + 1 + 1 + 1 + 1 + 1 := by rw [← hW8]; simp [hz7]
  have hn1 := (hb8.block _ (by omega)).trans hn1
  have hn2 := (hb8.block _ (by omega)).trans hn2
  have hn3 := (hb8.block _ (by omega)).trans hn3
  have hn4 := (hb8.block _ (by omega)).trans hn4
  have hn5 := (hb8.block _ (by omega)).trans hn5
  have hn6 := (hb8.block _ (by omega)).trans hn6
  have hn7 := (hb8.block _ (by omega)).trans hn7
  obtain ⟨W9, hW9⟩ : ∃ W, W8.alloc (.cells #[.slice (some ⟨w.heap.size + 1 + 1 + 1 + 1, 0, none⟩) 1 1, .slice (some ⟨w.heap.size + 1 + 1 + 1 + 1 + 1, 0, none⟩) 1 1, .slice (some ⟨w.heap.size + 1 + 1 + 1 + 1 + 1 + 1, 0, none⟩) 2 2, .slice (some ⟨w.heap.size + 1 + 1 + 1 + 1 + 1 + 1 + 1, 0, none⟩) 1 1] 22) = W := ⟨_, rfl⟩
  have hb9 := below_new (w := W8) (.cells #[.slice (some ⟨w.heap.size + 1 + 1 + 1 + 1, 0, none⟩) 1 1, .slice (some ⟨w.heap.size + 1 + 1 + 1 + 1 + 1, 0, none⟩) 1 1, .slice (some ⟨w.heap.size + 1 + 1 + 1 + 1 + 1 + 1, 0, none⟩) 2 2, .slice (some ⟨w.heap.size + 1 + 1 + 1 + 1 + 1 + 1 + 1, 0, none⟩) 1 1] 22)
  have hn9 := World.alloc_heap_new W8 (.cells #[.slice (some ⟨w.heap.size + 1 + 1 + 1 + 1, 0, none⟩) 1 1, .slice (some ⟨w.heap.size + 1 + 1 + 1 + 1 + 1, 0, none⟩) 1 1, .slice (some ⟨w.heap.size + 1 + 1 + 1 + 1 + 1 + 1, 0, none⟩) 2 2, .slice (some ⟨w.heap.size + 1 + 1 + 1 + 1 + 1 + 1 + 1, 0, none⟩) 1 1] 22)
  rw [hW9] at hb9 hn9
  rw [hz8] at hn9
  have hz9 : W9.heap.size = w.heap.size + 1 + 1 + 1 + 1 + 1 + 1 + 1 + 1 + 1 := by rw [← hW9]; simp [hz8]
  have hn1 := (hb9.block _ (by omega)).trans hn1
  have hn2 := (hb9.block _ (by omega)).trans hn2
  have hn3 := (hb9.block _ (by omega)).trans hn3
  have hn4 := (hb9.block _ (by omega)).trans hn4
  have hn5 := (hb9.block _ (by omega)).trans hn5
  have hn6 := (hb9.block _ (by omega)).trans hn6
  have hn7 := (hb9.block _ (by omega)).trans hn7
  have hn8 := (hb9.block _ (by omega)).trans hn8
  have hB := hb1
  have hB := hB.trans (hb2.mono hB.size)
  have hB := hB.trans (hb3.mono hB.size)
  have hB := hB.trans (hb4.mono hB.size)
  have hB := hB.trans (hb5.mono hB.size)
  have hB := hB.trans (hb6.mono hB.size)
  have hB := hB.trans (hb7.mono hB.size)
  have hB := hB.trans (hb8.mono hB.size)
  have hB := hB.trans (hb9.mono hB.size)
  have HW := Lib.hid (And.intro hW1 (And.intro hW2 (And.intro hW3 (And.intro hW4 (And.intro hW5 (And.intro hW6 (And.intro hW7 (And.intro hW8 hW9))))))))
  have HB := Lib.hid hB
  have hnd : IlSl W9 (w.heap.size + 1 + 1 + 1 + 1 + 1 + 1 + 1 + 1) (.slice (some ⟨w.heap.size + 1 + 1 + 1, 0, none⟩) 2 2) sampleK.nd := two_nodes (a := ⟨0, [1, -2]⟩) (b := ⟨1, [-1, -3, -4]⟩) hn4 (by omega) (ints_sl hn2 rfl (by omega) rfl (by omega)) (ints_sl hn3 rfl (by omega) rfl (by omega))
  have HP := Lib.hid (show KeyP w W9 (.agg #[.slice (some ⟨w.heap.size + 1 + 1 + 1, 0, none⟩) 2 2, .slice (some ⟨w.heap.size + 1 + 1 + 1 + 1 + 1 + 1 + 1 + 1, 0, none⟩) 4 4]) from ⟨_, _, _, _, _, _, rfl, by omega, hnd, hn9, ints_sl hn5 rfl (by omega) rfl (by omega), ints_sl hn6 rfl (by omega) rfl (by omega), ints_sl hn7 rfl (by omega) rfl (by omega), ints_sl hn8 rfl (by omega) rfl (by omega)⟩)
  obtain ⟨c0, c1⟩ := cells_two hn1
  clear hW1 hb1 hn1 hz1 hW2 hb2 hn2 hz2 hW3 hb3 hn3 hz3 hW4 hb4 hn4 hz4 hW5 hb5 hn5 hz5 hW6 hb6 hn6 hz6 hW7 hb7 hn7 hz7 hW8 hb8 hn8 hz8 hW9 hb9 hn9 hz9 hB hnd
  go_enter Tryd.func58, Tryd.ntmps58
  go_wp2_with fail
  rw [HW.out.1, HW.out.2.1, HW.out.2.2.1, HW.out.2.2.2.1, HW.out.2.2.2.2.1, HW.out.2.2.2.2.2.1, HW.out.2.2.2.2.2.2.1, HW.out.2.2.2.2.2.2.2.1, HW.out.2.2.2.2.2.2.2.2]
  (try go_wp2_with fail)
  exact bodyPost_ret (v := .agg #[.slice (some ⟨w.heap.size + 1 + 1 + 1, 0, none⟩) 2 2, .slice (some ⟨w.heap.size + 1 + 1 + 1 + 1 + 1 + 1 + 1 + 1, 0, none⟩) 4 4]) (by simp [results, Tryd.results58, go_sem, c0, c1]) rfl ⟨⟨_, rfl, HP.out⟩, HB.out⟩
end Go.Proofs.YthfegbcbpeedbaaDoor
