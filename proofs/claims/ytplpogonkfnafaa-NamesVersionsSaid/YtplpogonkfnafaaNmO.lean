/- open, openAt. -/
import Derived.Test.YtplpogonkfnafaaNmL
namespace Go.Proofs.Ytplpogonkfnafaa
open Go.RowKit Go.Nm

theorem versF_pos : ∀ (l : List Ch) (a : List Int) (y : Int), 1 ≤ (versF a y l).length
  | [], a, y => by simp [versF]
  | x :: l, a, y => by
    unfold versF
    split <;> simp
theorem vers_len (b : Bk) : (vers b).length ≤ b.chs.length + 1 := by
  unfold vers
  split
  · exact versF_len _ _ _
  · simp
theorem val_len {b : Bk} (h : Val b) : (vers b).length = b.chs.length + 1 := by have := vers_len b; have := h.2; omega
theorem HsV.form {w : World} {v vc : Value} {b : Bk} (h : HsV w v b vc) : ∃ A c, v = .agg #[.slice A (vers b).length c, vc] := by
  obtain ⟨vs, rfl, h1, h2⟩ := h
  obtain ⟨A, c, rfl⟩ := h1.form
  exact ⟨A, c, rfl⟩
theorem HsV.formC {w : World} {v vc : Value} {b : Bk} (h : HsV w v b vc) : ∃ A c, vc = .slice A b.chs.length c := by
  obtain ⟨vs, rfl, h1, h2⟩ := h
  exact h2.form
theorem versF_ne : ∀ (l : List Ch) (a : List Int) (y : Int), a ≠ [] → ∀ L ∈ versF a y l, L ≠ []
  | [], a, y, h, L, hL => by simp [versF] at hL; subst hL; exact h
  | x :: l, a, y, h, L, hL => by
    unfold versF at hL
    split at hL
    · rename_i hx
      rcases List.mem_cons.1 hL with rfl | hL
      · exact h
      · exact versF_ne l _ _ (rep_ne h fun e => by have := hx.2.2.2.1.1; rw [e] at this; simp at this) L hL
    · simp at hL; subst hL; exact h
theorem vers_ne {b : Bk} : ∀ L ∈ vers b, L ≠ [] := fun L hL => by
  unfold vers at hL
  split at hL
  · rename_i h; exact versF_ne _ _ _ (fun e => by have := h.1; rw [e] at this; simp at this) L hL
  · simp at hL
/-- a store into a cell that holds no number keeps a slice of numbers -/
theorem InSl.store {w : World} {B : Nat} {v : Value} {L : List Int} {q : Addr} {A0 : Option Addr} {n0 c0 : Nat} (h : InSl w B v L) (hq : w.cell? q = some (.slice A0 n0 c0)) (u : Value) : InSl (w.setCell q u) B v L := by
  obtain ⟨A, c, e, h1, h2, h3⟩ := h
  refine ⟨A, c, e, h1, h2, fun i x hx => ?_⟩
  obtain ⟨ad, ea, hb, hc⟩ := h3 i x hx
  exact ⟨ad, ea, hb, by rw [World.cell?_setCell_other _ _ _ _ (fun e => by rw [← e] at hc; rw [hq] at hc; cases hc)]; exact hc⟩
theorem VsSl.store {w : World} {B : Nat} {v : Value} {LL : List (List Int)} {q : Addr} (h : VsSl w B v LL) (hne : ∀ L ∈ LL, L ≠ []) (hq : w.cell? q = some (.slice none 0 0)) (u : Value) : VsSl (w.setCell q u) B v LL := by
  obtain ⟨A, c, vals, e, h1, h2⟩ := h
  refine ⟨A, c, vals, e, ⟨h1.1, fun i v L g1 g2 => (h1.2 i v L g1 g2).store hq u⟩, fun i x hx => ?_⟩
  obtain ⟨ad, ea, hb, hc⟩ := h2 i x hx
  refine ⟨ad, ea, hb, ?_⟩
  rw [World.cell?_setCell_other _ _ _ _ (fun e => ?_)]
  · exact hc
  · rw [← e, hq] at hc
    injection hc with hc
    have hi : i < LL.length := by rw [← h1.1]; exact (List.getElem?_eq_some_iff.1 hx).1
    have hL := List.getElem?_eq_getElem hi
    obtain ⟨A', c', e', _⟩ := h1.2 i x _ hx hL
    rw [← hc] at e'
    injection e' with e1 e2 e3
    exact hne _ (List.mem_of_getElem? hL) (List.length_eq_zero_iff.1 e2.symm)
set_option maxHeartbeats 2000000 in
theorem complete_any (v vc : Value) (b : Bk) (w : World) (h : HsV w v b vc) :
    Calls Try.prog 56 #[v] w fun e w' => e = .returned (.bool (decide (b.chs.length < (vers b).length))) ∧ Below w.heap.size w w' := by
  obtain ⟨A, c, rfl⟩ := h.form
  obtain ⟨A', c', rfl⟩ := h.formC
  clear h
  obtain ⟨r, hr⟩ : ∃ r, decide (b.chs.length < (vers b).length) = r := ⟨_, rfl⟩
  rw [hr]
  have HR := Lib.hid hr
  clear hr
  generalize b.chs.length = m at *
  generalize (vers b).length = n at *
  go_enter Try.func56, Try.ntmps56
  go_wp2_with fail
  go_ret
  exact ⟨ret_b HR.out, below_new _⟩
theorem two_new (w : World) (o1 o2 : Obj) : ((w.alloc o1).alloc o2).heap[w.heap.size + 1]? = some o2 := by
  rw [show w.heap.size + 1 = (w.alloc o1).heap.size from by simp]; exact World.alloc_heap_new _ _
/-- what open tells of a book and versions -/
def openE (b : Bk) (V : List Int) : Int := if Val b then (if ∀ v ∈ V, 0 ≤ v ∧ v < (vers b).length then 0 else 21) else 20
def nilH : Value := .agg #[.slice none 0 0, .slice none 0 0]
def OpR (b : Bk) (vc : Value) (er : Int) (w : World) (e : Ending) (w' : World) : Prop :=
  ∃ u, e = .returned (.tuple #[u, .int .i64 er]) ∧ (er = 0 → HsV w' u b vc) ∧ (er ≠ 0 → u = nilH) ∧ Below w.heap.size w w'
theorem OpR.bad {b : Bk} {vc : Value} {er : Int} {w w' : World} (h : er ≠ 0) (hb : Below w.heap.size w w') : OpR b vc er w (.returned (.tuple #[.agg #[.slice none 0 0, .slice none 0 0], .int .i64 er])) w' :=
  ⟨_, rfl, fun e => absurd e h, fun _ => rfl, hb⟩
theorem OpR.good {b : Bk} {vc : Value} {w w' : World} {u : Value} (h : HsV w' u b vc) (hb : Below w.heap.size w w') : OpR b vc 0 w (.returned (.tuple #[u, .int .i64 0])) w' :=
  ⟨u, rfl, fun _ => h, fun e => absurd rfl e, hb⟩
/-- a history that is stored as a result -/
theorem HsV.fin {w W : World} {g : Nat} {vs vc : Value} {b : Bk} (h : HsV W (.agg #[vs, vc]) b vc) (hb : Below w.heap.size w W) (h2 : ChSl w w.heap.size vc b.chs) (r0 : W.cell? ⟨w.heap.size + g, 0, none⟩ = some (.slice none 0 0)) (r1 : W.cell? ⟨w.heap.size + g, 1, none⟩ = some (.slice none 0 0)) :
    HsV ((W.setCell ⟨w.heap.size + g, 0, none⟩ vs).setCell ⟨w.heap.size + g, 1, none⟩ vc) (.agg #[vs, vc]) b vc ∧ Below w.heap.size w ((W.setCell ⟨w.heap.size + g, 0, none⟩ vs).setCell ⟨w.heap.size + g, 1, none⟩ vc) := by
  obtain ⟨vs', e, h1, _⟩ := h
  simp only [Value.agg.injEq, Array.mk.injEq, List.cons.injEq, and_true] at e
  subst e
  have hb2 : Below w.heap.size w ((W.setCell ⟨w.heap.size + g, 0, none⟩ vs).setCell ⟨w.heap.size + g, 1, none⟩ vc) := (hb.setCell (by simp) _).setCell (by simp) _
  refine ⟨⟨vs, rfl, ?_, h2.step hb2⟩, hb2⟩
  have hs : ((W.setCell ⟨w.heap.size + g, 0, none⟩ vs).setCell ⟨w.heap.size + g, 1, none⟩ vc).heap.size = W.heap.size := by simp
  rw [hs]
  refine (h1.store vers_ne r0 vs).store vers_ne ?_ vc
  rw [World.cell?_setCell_other _ _ _ _ (by intro e; injection e with e1 e2; omega)]
  exact r1
set_option maxRecDepth 100000 in
set_option maxHeartbeats 8000000 in
theorem open_any (v vc t : Value) (b : Bk) (V : List Int) (w : World) (hv : BkV w v b vc) (hs : Sm b) (ht : InSl w w.heap.size t V) (hV : V.length ≤ 1000) :
    Calls Try.prog 60 #[v, t] w (OpR b vc (openE b V) w) := by
  obtain ⟨v1, rfl, h1, h2⟩ := hv
  have HB := Lib.hid (And.intro h1 (And.intro h2 hs))
  have HT := Lib.hid ht
  obtain ⟨A1, c1, rfl, _⟩ := h1.form
  obtain ⟨A2, c2, rfl⟩ := h2.form
  obtain ⟨A3, c3, rfl, _⟩ := ht.form
  clear h1 h2 hs ht
  by_cases hbig : b.chs.length ≤ 64
  · have hbs := below_new (w := w) (.cells #[.slice A1 b.first.length c1, .slice A2 b.chs.length c2] 25)
    have hbs2 := hbs.trans ((below_new (w := w.alloc (.cells #[.slice A1 b.first.length c1, .slice A2 b.chs.length c2] 25)) (.cells #[.slice none 0 0, .slice none 0 0] 67)).mono (by simp))
    have HH := Lib.hid (historyOf_any (.agg #[.slice A1 b.first.length c1, .slice A2 b.chs.length c2]) _ b _ ⟨_, rfl, HB.out.1.step hbs2, HB.out.2.1.step hbs2⟩ HB.out.2.2)
    have HBs := Lib.hid hbs2
    have HRes := Lib.hid (two_new w (.cells #[.slice A1 b.first.length c1, .slice A2 b.chs.length c2] 25) (.cells #[.slice none 0 0, .slice none 0 0] 67))
    have hbig' : ¬ (64 : Int) < (b.chs.length : Int) := by omega
    clear hbs hbs2
    have HEq := Lib.hid (show openE b V = if Val b then (if ∀ v ∈ V, 0 ≤ v ∧ v < (vers b).length then 0 else 21) else 20 from rfl)
    have HVal := Lib.hid (show Val b ↔ b.chs.length < (vers b).length from ⟨fun h => h.2, fun h => ⟨hbig, h⟩⟩)
    generalize openE b V = er at *
    go_enter Try.func60, Try.ntmps60
    go_wp2_with fail
    refine HH.out.mono ?_
    rintro e w1 ⟨⟨u, rfl, hu⟩, hb⟩
    obtain ⟨Av, cv, rfl⟩ := hu.form
    have HU := Lib.hid hu
    have HB1 := Lib.hid (HBs.out.trans (hb.mono HBs.out.size))
    have HR1 := Lib.hid ((hb.block _ (Array.getElem?_eq_some_iff.1 HRes.out).1).trans HRes.out)
    have hrl : w.heap.size + 1 < w1.heap.size := (Array.getElem?_eq_some_iff.1 HR1.out).1
    clear hu hb
    have HU2 := Lib.hid (HU.out.step (below_new (.cells #[.slice Av (vers b).length cv, .slice A2 b.chs.length c2] 67)))
    have HC := Lib.hid (complete_any _ _ b _ HU2.out)
    have HB2 := Lib.hid (HB1.out.trans ((below_new (.cells #[.slice Av (vers b).length cv, .slice A2 b.chs.length c2] 67)).mono HB1.out.size))
    have HR2 := Lib.hid (((below_new (w := w1) (.cells #[.slice Av (vers b).length cv, .slice A2 b.chs.length c2] 67)).block _ (Array.getElem?_eq_some_iff.1 HR1.out).1).trans HR1.out)
    have HN2 := Lib.hid (World.alloc_heap_new w1 (.cells #[.slice Av (vers b).length cv, .slice A2 b.chs.length c2] 67))
    clear HU HB1 HR1
    by_cases hval : Val b
    · rw [decide_eq_true (HVal.out.1 hval)] at HC
      have HEq2 := Lib.hid (show er = if ∀ v ∈ V, 0 ≤ v ∧ v < (vers b).length then 0 else 21 from by rw [HEq.out, if_pos hval])
      clear HEq HVal hval
      go_wp2_with fail
      refine HC.out.mono ?_
      rintro e w2 ⟨rfl, hb⟩
      have HU3 := Lib.hid (HU2.out.step hb)
      have HB3 := Lib.hid (HB2.out.trans (hb.mono HB2.out.size))
      have HR3 := Lib.hid ((hb.block _ (Array.getElem?_eq_some_iff.1 HR2.out).1).trans HR2.out)
      have HN3 := Lib.hid ((hb.block _ (Array.getElem?_eq_some_iff.1 HN2.out).1).trans HN2.out)
      have HT3 := Lib.hid (HT.out.step HB3.out)
      clear hb HU2 HB2 HR2 HN2
      generalize hnv : V.length = nv at *
      have HNv := Lib.hid hnv
      clear hnv
      obtain ⟨k0, k1⟩ := cells_two HN3.out
      obtain ⟨r0, r1⟩ := cells_two HR3.out
      have f0 := frozen_cells HR3.out 0
      have f1 := frozen_cells HR3.out 1
      have HVl : (vers b).length ≤ 1001 := by have := vers_len b; have := HB.out.2.2.2.1; omega
      generalize hvl : (vers b).length = vl at *
      have HVle := Lib.hid hvl
      clear hvl
      have HFin := Lib.hid (HU3.out.fin (b := b) HB3.out HB.out.2.1 r0 r1)
      go_wp2_with fail
      go_loop [22] (fun ix => ∃ j : Nat, ix = .int .i64 (j : Int) ∧ j ≤ nv ∧ ∀ i z, i < j → V[i]? = some z → 0 ≤ z ∧ z < (vl : Int)) (fun ix => nv - (intOf ix).toNat)
      case atStart => exact ⟨0, rfl, by omega, fun i z h => absurd h (by omega)⟩
      case round =>
        obtain ⟨j, rfl, hjn, hno⟩ := hrel
        have HJ := Lib.hid hno
        clear hno
        by_cases hjlt : j < nv
        · obtain ⟨A5', c5', e5, h51, h52, h53⟩ := HT3.out
          obtain ⟨z, ad5, hz, ea, hb5, hcz⟩ := h53.at_ HNv.out hjlt
          injection e5 with e51 e52 e53
          subst e51
          subst ea
          have HZ1 := Lib.hid hz
          clear hz h51 h52 h53 e52 e53 hb5
          by_cases hz0 : z < 0
          · have HE := Lib.hid (show er = 21 from by
              rw [HEq2.out, if_neg]
              intro h
              have := (h z (List.mem_of_getElem? HZ1.out)).1; omega)
            obtain rfl := HE.out
            go_wp2_with fail
            exact bodyPost_ret (v := .tuple #[.agg #[.slice none 0 0, .slice none 0 0], .int .i64 21]) (by simp [results, Try.results60, go_sem, r0, r1]) rfl (OpR.bad (by decide) ((HB3.out.setCell (by simp) _).setCell (by simp) _))
          · by_cases hz1 : (vl : Int) ≤ z
            · have HE := Lib.hid (show er = 21 from by
                rw [HEq2.out, if_neg]
                intro h
                have := (h z (List.mem_of_getElem? HZ1.out)).2; omega)
              obtain rfl := HE.out
              go_wp2_with fail
              exact bodyPost_ret (v := .tuple #[.agg #[.slice none 0 0, .slice none 0 0], .int .i64 21]) (by simp [results, Try.results60, go_sem, r0, r1]) rfl (OpR.bad (by decide) ((HB3.out.setCell (by simp) _).setCell (by simp) _))
            · have HJ2 := Lib.hid (show ∀ i z', i < j + 1 → V[i]? = some z' → 0 ≤ z' ∧ z' < (vl : Int) from fun i z' hi hz' => by
                by_cases e : i = j
                · subst e; rw [HZ1.out] at hz'; injection hz' with hz'; subst hz'; omega
                · exact HJ.out i z' (by omega) hz')
              go_wp2_with fail
              go_round
              case rel => exact ⟨j + 1, by go_num, by omega, HJ2.out⟩
              case measure => simp [intOf]; omega
        · have HE := Lib.hid (show er = 0 from by
            rw [HEq2.out, if_pos]
            intro z hz
            obtain ⟨i, hi, rfl⟩ := List.getElem_of_mem hz
            exact HJ.out i _ (by have := HNv.out; omega) (List.getElem?_eq_getElem hi))
          obtain rfl := HE.out
          go_wp2_with fail
          exact bodyPost_ret (v := .tuple #[.agg #[.slice Av vl cv, .slice A2 b.chs.length c2], .int .i64 0]) (by simp [results, Try.results60, go_sem, r0, r1]) rfl (OpR.good HFin.out.1 HFin.out.2)
    · rw [decide_eq_false (fun h => hval (HVal.out.2 h))] at HC
      have HEq2 := Lib.hid (show er = 20 from by rw [HEq.out, if_neg hval])
      clear HEq HVal hval
      go_wp2_with fail
      refine HC.out.mono ?_
      rintro e w2 ⟨rfl, hb⟩
      have HB3 := Lib.hid (HB2.out.trans (hb.mono HB2.out.size))
      have HR3 := Lib.hid ((hb.block _ (Array.getElem?_eq_some_iff.1 HR2.out).1).trans HR2.out)
      obtain ⟨r0, r1⟩ := cells_two HR3.out
      have f0 := frozen_cells HR3.out 0
      have f1 := frozen_cells HR3.out 1
      obtain rfl := HEq2.out
      clear hb
      go_wp2_with fail
      exact bodyPost_ret (v := .tuple #[.agg #[.slice none 0 0, .slice none 0 0], .int .i64 20]) (by simp [results, Try.results60, go_sem, r0, r1]) rfl (OpR.bad (by decide) ((HB3.out.setCell (by simp) _).setCell (by simp) _))
  · have HE := Lib.hid (show openE b V = 20 from by unfold openE; rw [if_neg (fun h => hbig h.1)])
    generalize openE b V = er at *
    obtain rfl := HE.out
    generalize hm : b.chs.length = m at *
    have hbig' : (64 : Int) < (m : Int) := by omega
    go_enter Try.func60, Try.ntmps60
    go_wp2_with fail
    exact bodyPost_ret (v := .tuple #[.agg #[.slice none 0 0, .slice none 0 0], .int .i64 20]) (by simp [results, Try.results60, go_sem]) rfl (OpR.bad (by decide) (by (repeat (first | exact Below.refl _ _ | refine Below.drew ?_ | refine below_drewN ?_ _ | refine Below.alloc ?_ (by simp; try omega) _ | refine Below.setCell ?_ (by simp; try omega) _))))
end Go.Proofs.Ytplpogonkfnafaa
