/- extend at its end: a fate is yielded. -/
import Derived.Test.YtplpogonkfnafaaNmD
import Derived.Test.YtplpogonkfnafaaNmRa
import Derived.RangeFuncBox
namespace Go.Proofs.Ytplpogonkfnafaa
open Go.RowKit Go.Nm

/-- the fates that begin with some names, d names before the end -/
def fatesF (b : Bk) : Nat → List Int → List (List Int)
  | 0, g => [g]
  | d + 1, g => (furF b g).flatMap fun x => fatesF b d (g ++ [x])
/-- the value is a slice of these numbers, in none of two blocks -/
def InN (B g : Nat) (ow : Option Nat) (X : World) (u : Value) (L : List Int) : Prop :=
  ∃ A c, u = .slice A L.length c ∧ L.length ≤ c ∧ c ≤ maxLen ∧ ∀ (i : Nat) (x : Int), L[i]? = some x → ∃ ad, A = some ad ∧ ad.block < X.heap.size ∧ B ≤ ad.block ∧ ad.block ≠ g ∧ some ad.block ≠ ow ∧ X.cell? (ad.add i) = some (.int .i64 x)
theorem InN.sl {B g : Nat} {ow : Option Nat} {X : World} {u : Value} {L : List Int} (h : InN B g ow X u L) : InSl X X.heap.size u L := by
  obtain ⟨A, c, e, h1, h2, h3⟩ := h
  exact ⟨A, c, e, h1, h2, fun i x hx => by
    obtain ⟨ad, ha, hb, _, _, _, hc⟩ := h3 i x hx
    exact ⟨ad, ha, hb, hc⟩⟩
theorem InN.form {B g : Nat} {ow : Option Nat} {X : World} {u : Value} {L : List Int} (h : InN B g ow X u L) : ∃ A c, u = .slice A L.length c ∧ L.length ≤ c ∧ c ≤ maxLen := by
  obtain ⟨A, c, e, h1, h2, _⟩ := h; exact ⟨A, c, e, h1, h2⟩
theorem InN.grown {B g : Nat} {ow row : Option Nat} {X Y : World} {u : Value} {L : List Int} (h : InN B g ow X u L) (hg : X.grownBy Y row) (hr : ∀ r, row = some r → r = g ∨ some r = ow ∨ r < B ∨ ∃ o : Obj, X.heap[r]? = some o ∧ o.isCells = false) : InN B g ow Y u L := by
  obtain ⟨A, c, e, h1, h2, h3⟩ := h
  refine ⟨A, c, e, h1, h2, fun i x hx => ?_⟩
  obtain ⟨ad, ha, hb, hB, hn, ho, hc⟩ := h3 i x hx
  refine ⟨ad, ha, Nat.lt_of_lt_of_le hb hg.size, hB, hn, ho, ?_⟩
  refine (World.cell?_of_block (w := X) (by
    rw [add_block]
    refine hg.block _ hb fun e => ?_
    rcases hr _ e.symm with h | h | h | ⟨o, h, hc'⟩
    · exact hn h
    · exact ho h
    · omega
    · have hc2 := hc
      unfold World.cell? at hc2
      rw [add_block, h] at hc2
      cases o <;> simp_all [Obj.isCells])).trans hc
theorem InN.row {B g : Nat} {ow ow' : Option Nat} {X : World} {u : Value} {L : List Int} (h : InN B g ow X u L) (hg : Grows ow ow' X) : InN B g ow' X u L := by
  obtain ⟨A, c, e, h1, h2, h3⟩ := h
  refine ⟨A, c, e, h1, h2, fun i x hx => ?_⟩
  obtain ⟨ad, ha, hb, hB, hn, ho, hc⟩ := h3 i x hx
  refine ⟨ad, ha, hb, hB, hn, fun e => ?_, hc⟩
  rcases hg with h | ⟨k, h, hk⟩
  · rw [h] at e; exact ho e
  · rw [h] at e; cases e; omega
/-- what the yield of a fate may count on -/
def PxF (B N M : Nat) (g : Nat) (pre : List (List Int × Value)) (x : List Int × Value) (ow : Option Nat) (X : World) : Prop := x.1.length = N ∧ pre.length < M ∧ g < X.heap.size ∧ InN B g ow X x.2 x.1
/-- all that lay from B on lies as it lay, but for the blocks ow and g -/
structure KB (B : Nat) (ow : Option Nat) (g : Nat) (W W' : World) : Prop where
  size : W.heap.size ≤ W'.heap.size
  same : ∀ k o, B ≤ k → W.heap[k]? = some o → some k ≠ ow → k ≠ g → W'.heap[k]? = some o
theorem KB.refl (B : Nat) (ow : Option Nat) (g : Nat) (W : World) : KB B ow g W W := ⟨Nat.le_refl _, fun _ _ _ h _ _ => h⟩
theorem KA.kb {B : Nat} {ow : Option Nat} {W W' : World} (h : KA B ow W W') (g : Nat) : KB B ow g W W' := ⟨h.size, fun k o hB hk hne _ => h.same k o hB hk hne⟩
theorem KB.of_grown {B : Nat} {ow : Option Nat} {g : Nat} {W W' : World} (h : W.grownBy W' (some g)) : KB B ow g W W' :=
  ⟨h.size, fun k o _ hk _ hg => (h.block k (Array.getElem?_eq_some_iff.1 hk).1 (fun e => by cases e; exact hg rfl)).trans hk⟩
theorem KB.trans {B : Nat} {ow ow' : Option Nat} {g : Nat} {X Y Z : World} (h : KB B ow g X Y) (hg : Grows ow ow' X) (k : KB B ow' g Y Z) : KB B ow g X Z :=
  ⟨Nat.le_trans h.size k.size, fun i o hB hi hne hn => k.same i o hB (h.same i o hB hi hne hn) (fun e => by
    rcases hg with h' | ⟨j, h', hj⟩
    · rw [h'] at e; exact hne e
    · rw [h'] at e; cases e; have := (Array.getElem?_eq_some_iff.1 hi).1; omega) hn⟩
theorem KB.cell {B : Nat} {ow : Option Nat} {g : Nat} {W W' : World} (h : KB B ow g W W') {a : Addr} {v : Value} (hc : W.cell? a = some v) (hB : B ≤ a.block) (ho : some a.block ≠ ow) (hg : a.block ≠ g) : W'.cell? a = some v := by
  have hlt := World.block_lt_of_cell? _ _ hc
  exact (World.cell?_of_block (w := W) (by rw [h.same a.block _ hB (Array.getElem?_eq_getElem hlt) ho hg]; exact (Array.getElem?_eq_getElem hlt).symm)).trans hc
/-- what extend asks of the one who is given the fates -/
structure ExC (P : Program) (V0 : World) (B g l N M : Nat) (J : List (List Int × Value) → Option Nat → World → Prop) : Prop where
  keep : ∀ pre ow X X', J pre ow X → X.grownBy X' (some g) → J pre ow X'
  bel : ∀ pre ow X, J pre ow X → Below V0.heap.size V0 X
  low : ∀ pre ow X, J pre ow X → ∀ k, ow = some k → k < X.heap.size ∧ k ≠ g
  yld : ∀ pre x ow X, J pre ow X → PxF B N M g pre x ow X → YieldAt Fence.wide 4 P l #[x.2] X fun e X' => e = .returned (.bool true) ∧ ∃ ow', J (pre ++ [x]) ow' X' ∧ Grows ow ow' X ∧ KA B ow X X'
theorem ExC.below {P : Program} {V0 : World} {B g l N M : Nat} {J : List (List Int × Value) → Option Nat → World → Prop} (h : ExC P V0 B g l N M J) {pre : List (List Int × Value)} {ow : Option Nat} {X X' : World} (hj : J pre ow X) (hb : Below X.heap.size X X') : J pre ow X' :=
  h.keep _ _ _ _ hj (grown_of_below hb _)
/-- what extend has done: all fates have been yielded, and there may be a further one -/
def OutE (b : Bk) (B g N d : Nat) (g0 : List Int) (J : List (List Int × Value) → Option Nat → World → Prop) (pre : List (List Int × Value)) (ow : Option Nat) (X : World) (e : Ending) (X' : World) : Prop :=
  e = .returned (.bool true) ∧ ∃ us ow', us.map (·.1) = fatesF b d g0 ∧ J (pre ++ us) ow' X' ∧ Grows ow ow' X ∧ KB B ow g X X' ∧ X'.ownsRow B 3 1 (.slice (some ⟨g, 0, none⟩) g0.length N) g0.length (intsV g0)
theorem OutE.mk {b : Bk} {B g N d : Nat} {g0 : List Int} {J : List (List Int × Value) → Option Nat → World → Prop} {pre us : List (List Int × Value)} {ow ow' : Option Nat} {X X' : World}
    (h1 : us.map (·.1) = fatesF b d g0) (h2 : J (pre ++ us) ow' X') (h3 : Grows ow ow' X) (h4 : KB B ow g X X') (h5 : X'.ownsRow B 3 1 (.slice (some ⟨g, 0, none⟩) g0.length N) g0.length (intsV g0)) :
    OutE b B g N d g0 J pre ow X (.returned (.bool true)) X' := ⟨rfl, us, ow', h1, h2, h3, h4, h5⟩
theorem own_kept {X Y : World} {B g n N z : Nat} {t : TypeId} {xs : List Value} {row : Option Nat} (h : X.ownsRow B t z (.slice (some ⟨g, 0, none⟩) n N) n xs) (hg : X.grownBy Y row) (hne : some g ≠ row) : Y.ownsRow B t z (.slice (some ⟨g, 0, none⟩) n N) n xs :=
  h.kept hg (.inr hne)
theorem own_same {X Y : World} {B g n N z : Nat} {t : TypeId} {xs : List Value} (h : X.ownsRow B t z (.slice (some ⟨g, 0, none⟩) n N) n xs) (hk : ∀ o, X.heap[g]? = some o → Y.heap[g]? = some o) : Y.ownsRow B t z (.slice (some ⟨g, 0, none⟩) n N) n xs := by
  refine ⟨h.1, ?_⟩
  rcases h.2 with ⟨e, _⟩ | ⟨g', cap, cur, e, hb, hg, rest⟩
  · cases e
  · injection e with e1 e2 e3
    injection e1 with e1
    injection e1 with e1
    subst e1; subst e3
    exact .inr ⟨g, N, cur, rfl, hb, hk _ hg, rest⟩
theorem own_inA {X : World} {B g n N : Nat} {L : List Int} (h : X.ownsRow B 3 1 (.slice (some ⟨g, 0, none⟩) n N) n (intsV L)) : InA X X.heap.size (some ⟨g, 0, none⟩) L := by
  intro i x hx
  have hlt := (h.lt g rfl).2
  exact ⟨_, rfl, hlt, h.cells (g := g) rfl i _ (by rw [intsV, List.getElem?_map, hx]; rfl)⟩
set_option maxRecDepth 100000 in
set_option maxHeartbeats 8000000 in
theorem extend_end (V0 X : World) (v vc : Value) (b : Bk) (B g l N M n : Nat) (g0 : List Int) (J : List (List Int × Value) → Option Nat → World → Prop) (pre : List (List Int × Value)) (ow : Option Nat) (hv : HsV V0 v b vc)
    (C : ExC Try.prog V0 B g l N M J) (hj : J pre ow X) (ho : X.ownsRow B 3 1 (.slice (some ⟨g, 0, none⟩) g0.length N) g0.length (intsV g0)) (hN : (vers b).length = N) (hl : g0.length = N) (hM : pre.length < M) (hs : N ≤ 1000) :
    CallsIn Fence.wide n Try.prog 101 #[v, .slice (some ⟨g, 0, none⟩) g0.length N, .func (.yield l) #[] #[]] X (OutE b B g N 0 g0 J pre ow X) := by
  obtain ⟨vs, rfl, h1, h2⟩ := hv
  have e1 := h1.form
  rw [hN] at e1
  obtain ⟨Av, cv, rfl⟩ := e1
  obtain ⟨A2, c2, rfl⟩ := h2.form
  have hb0 := below_new (w := X) (.cells #[.slice Av N cv, .slice A2 b.chs.length c2] 67)
  have HN0 := Lib.hid (World.alloc_heap_new X (.cells #[.slice Av N cv, .slice A2 b.chs.length c2] 67))
  have HB0 := Lib.hid hb0
  have HJ0 := Lib.hid (C.below hj hb0)
  have HO0 := Lib.hid (own_step ho hb0)
  have HL := Lib.hid (And.intro (And.intro hl hM) (ho.lt g rfl))
  have HW := Lib.hid (C.low _ _ _ hj)
  have HC := Lib.hid C
  have HI := Lib.hid (show InSl (X.alloc (.cells #[.slice Av N cv, .slice A2 b.chs.length c2] 67)) (X.alloc (.cells #[.slice Av N cv, .slice A2 b.chs.length c2] 67)).heap.size (.slice (some ⟨g, 0, none⟩) N N) g0 from
    ⟨_, _, by rw [hl], by omega, by unfold maxLen; omega, own_inA HO0.out⟩)
  have hsz := HB0.out.size
  clear h1 h2 hb0 hj ho C
  obtain ⟨X1, hX1⟩ : ∃ X1, X.alloc (.cells #[.slice Av N cv, .slice A2 b.chs.length c2] 67) = X1 := ⟨_, rfl⟩
  rw [hX1] at HN0 HB0 HJ0 HO0 HI hsz
  obtain ⟨k0, k1⟩ := cells_two HN0.out
  have HCl := Lib.hid (callsIn_wide.2 (clone_any _ g0 X1 HI.out (by omega)) : CallsIn Fence.wide (n - 1) Try.prog 83 #[.slice (some ⟨g, 0, none⟩) N N] X1 _)
  rw [hl]
  refine callsIn_of_wp Try.func101 rfl trivial ?_ rfl
  simp only [Try.ntmps101, List.size_toArray, List.length_cons, List.length_nil, Nat.reduceAdd, Nat.reduceSub, Array.replicate_succ, Array.replicate_zero, List.push_toArray, List.append_toArray, List.nil_append, List.cons_append]
  gi_wp2_with fail
  refine ⟨trivial, (fun h => nomatch h), ?_⟩
  (with_reducible refine HCl.out.mono ?_)
  rintro e X2 ⟨r, rfl, hO⟩
  have HR := Lib.hid hO
  obtain ⟨A3, c3, rfl, _⟩ := hO.sl.form
  have HJ2 := Lib.hid (HC.out.below HJ0.out hO.bel)
  have HP := Lib.hid (show PxF B N M g pre (g0, .slice A3 g0.length c3) ow X2 from ⟨HL.out.1.1, HL.out.1.2, by have := HL.out.2.2; have := hO.bel.size; omega, by
    obtain ⟨A4, c4, e, h1, h2, h3⟩ := hO.sl
    refine ⟨A4, c4, e, h1, h2, fun i x hx => ?_⟩
    obtain ⟨ad, ha, hb, hc⟩ := h3 i x hx
    have hbk : X1.heap.size ≤ ad.block := by
      subst ha
      injection e with e
      subst e
      exact (hO.own.lt _ rfl).1
    exact ⟨ad, ha, hb, by have := HL.out.2; omega, by have := HL.out.2.2; omega, fun e => by have := (HW.out _ e.symm).1; omega, hc⟩⟩)
  obtain ⟨fn, tmps, assign, body, hy, hR⟩ := yieldAt_wide (k := n - 1) (HC.out.yld _ _ _ _ HJ2.out HP.out)
  have HR3 := Lib.hid hR
  have hO' := hO.bel
  clear hR hO HJ2 HJ0 HCl HI HP
  rw [hl] at hy ⊢
  gi_wp2_with fail
  refine ⟨(fun h => nomatch h), ?_⟩
  (with_reducible refine HR3.out.mono ?_)
  rintro e X3 ⟨rfl, ow', hJ3, hgr, hka⟩
  have hgr0 : Grows ow ow' X := by
    rcases hgr with h | ⟨k, h, hk⟩
    · exact .inl h
    · exact .inr ⟨k, h, Nat.le_trans (Nat.le_trans hsz hO'.size) hk⟩
  have HE := Lib.hid (OutE.mk (b := b) (B := B) (g := g) (N := N) (d := 0) (g0 := g0) (J := J) (pre := pre) (us := [(g0, .slice A3 N c3)]) (ow := ow) (ow' := ow') (X := X) (X' := X3) (by rfl) (by rw [← hl]; exact hJ3) hgr0
    (((KA.of_below (B := B) (ow := ow) HB0.out).trans (KA.of_below hO')).trans hka |>.kb g)
    (own_same (own_step HO0.out hO') fun o h => hka.same g o (HO0.out.lt g rfl).1 h (fun e => (HW.out g e.symm).2 rfl)))
  clear hgr hka hJ3
  gi_wp2_with fail
  go_ret
  exact HE.out
end Go.Proofs.Ytplpogonkfnafaa
