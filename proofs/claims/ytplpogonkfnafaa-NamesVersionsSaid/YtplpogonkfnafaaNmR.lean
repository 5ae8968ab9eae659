/- meaning, Means, Names. -/
import Derived.Test.YtplpogonkfnafaaNmQ
namespace Go.Proofs.Ytplpogonkfnafaa
open Go.RowKit Go.Nm

theorem one_sl (w : World) (x : Int) : InSl (w.alloc (.cells #[.int .i64 x] 3)) (w.alloc (.cells #[.int .i64 x] 3)).heap.size (.slice (some ⟨w.heap.size, 0, none⟩) 1 1) [x] :=
  ⟨some ⟨w.heap.size, 0, none⟩, 1, rfl, Nat.le_refl _, by unfold maxLen; omega, fun i y hy => by
    have hi : i = 0 := by have := (List.getElem?_eq_some_iff.1 hy).1; simp at this; omega
    subst hi
    simp at hy; subst hy
    exact ⟨_, rfl, by simp, cell_one_new w (.int .i64 x) 3 0 _ rfl⟩⟩
theorem one_own (W w : World) (x : Int) (h : W.heap.size ≤ w.heap.size) : (w.alloc (.cells #[.int .i64 x] 3)).ownsRow W.heap.size 3 1 (.slice (some ⟨w.heap.size, 0, none⟩) 1 1) 1 (intsV [x]) :=
  World.ownsRow_lit (size := 1) w #[.int .i64 x] 1 h (by unfold maxLen; omega) rfl
set_option maxRecDepth 100000 in
set_option maxHeartbeats 4000000 in
theorem meaning_any (v vc : Value) (b : Bk) (x : Int) (n m : Nat) (w : World) (hv : HsV w v b vc) (hs : Sm b) (h64 : b.chs.length ≤ 64) (hn : n ≤ b.chs.length) (hm : m ≤ b.chs.length) :
    Calls Try.prog 76 #[v, .int .i64 n, .int .i64 x, .int .i64 m] w fun e w' => (∃ r, e = .returned r ∧ InSl w' w'.heap.size r (mns b.chs n [x] m)) ∧ Below w.heap.size w w' := by
  have hv0 := hv
  obtain ⟨vs, rfl, h1, h2⟩ := hv
  obtain ⟨Av, cv, rfl⟩ := h1.form
  obtain ⟨A2, c2, rfl⟩ := h2.form
  have hb0 := below_new (w := w) (.cells #[.slice Av (vers b).length cv, .slice A2 b.chs.length c2] 67)
  have hb1 := below_new (w := w.alloc (.cells #[.slice Av (vers b).length cv, .slice A2 b.chs.length c2] 67)) (.cells #[.int .i64 x] 3)
  have HC := Lib.hid (meanings_any _ _ _ b [x] n m _ ((hv0.step hb0).step hb1) hs h64 hn hm (one_sl _ x) (by simp))
  have HB := Lib.hid (hb0.trans (hb1.mono hb0.size))
  clear hv0 h1 h2 hb0 hb1
  generalize mns b.chs n [x] m = R at *
  rw [World.size_alloc] at HC
  go_enter Try.func76, Try.ntmps76
  go_wp2_with fail
  (with_reducible refine HC.out.mono ?_)
  rintro e w1 ⟨⟨r, rfl, hr⟩, hb⟩
  have HR := Lib.hid (And.intro hr (HB.out.trans (hb.mono HB.out.size)))
  obtain ⟨A3, c3, rfl, _⟩ := hr.form
  clear hr hb
  go_wp2_with fail
  go_ret
  exact ⟨⟨_, rfl, HR.out.1⟩, HR.out.2⟩

/-- a list and an errno -/
def OutN (R : List Int) (er : Int) (w : World) (e : Ending) (w' : World) : Prop := (∃ u, e = .returned (.tuple #[u, .int .i64 er]) ∧ InSl w' w'.heap.size u R) ∧ Below w.heap.size w w'
theorem OutN.nil {er : Int} {w w' : World} (hb : Below w.heap.size w w') : OutN [] er w (.returned (.tuple #[.slice none 0 0, .int .i64 er])) w' := ⟨⟨_, rfl, InSl.nil _ _⟩, hb⟩
theorem OutN.mk {R : List Int} {er : Int} {w w' : World} {u : Value} (hs : InSl w' w'.heap.size u R) (hb : Below w.heap.size w w') : OutN R er w (.returned (.tuple #[u, .int .i64 er])) w' := ⟨⟨u, rfl, hs⟩, hb⟩
def meansOut (b : Bk) (n x m : Int) : List Int × Int := if openAtE b [m] n x = 0 then (mns b.chs n.toNat [x] m.toNat, 0) else ([], openAtE b [m] n x)
theorem openE_val {b : Bk} {V : List Int} (h : openE b V = 0) : Val b ∧ ∀ v ∈ V, 0 ≤ v ∧ v < (vers b).length := by
  unfold openE at h
  split at h
  · rename_i hv
    split at h
    · rename_i h2; exact ⟨hv, h2⟩
    · cases h
  · cases h
theorem openAtE_zero {b : Bk} {V : List Int} {n x : Int} (h : openAtE b V n x = 0) : Val b ∧ (∀ v ∈ V ++ [n], 0 ≤ v ∧ v ≤ b.chs.length) ∧ x ∈ (vers b).getD n.toNat [] := by
  unfold openAtE at h
  split at h
  · rename_i h0
    obtain ⟨h1, h2⟩ := openE_val h0
    have := val_len h1
    split at h
    · rename_i h3
      exact ⟨h1, fun v hv => by have := h2 v hv; omega, h3⟩
    · cases h
  · rename_i h0; exact absurd h h0
end Go.Proofs.Ytplpogonkfnafaa
