/- The reference's builder: what grows beside it. -/
import Derived.Test.YthfegbcbpeedbaaDoorKyBg
namespace Go.Ky
open Go.Nm
structure MkK (k g : Kx) : Prop where
  pre : ∀ i, i < k.nd.length → g.nd[i]? = k.nd[i]?
  nle : k.nd.length ≤ g.nd.length
structure MaK (k : Kx) (c s : Nat) (g : Kx × List Int) : Prop where
  pre : ∀ i, i < k.nd.length → g.1.nd[i]? = k.nd[i]?
  at_ : g.1.nd[k.nd.length]? = some ⟨(c : Int), []⟩
  nle : k.nd.length + 1 ≤ g.1.nd.length
  len : g.2.length = s
theorem maK_all {m : Mx} {d c : Nat} {l : List Int} {k : Kx} (ih : ∀ l k, MkK k (makeF m d l k).1) : ∀ s, MaK k c s (mAll m d l c k s)
  | 0 => by
    rw [mAll_zero]
    refine ⟨fun i hi => List.getElem?_append_left hi, ?_, by simp, rfl⟩
    show (k.nd ++ _)[k.nd.length]? = _
    rw [List.getElem?_append_right (Nat.le_refl _)]; simp
  | s + 1 => by
    have h := maK_all (c := c) (l := l) (k := k) ih s
    rw [mAll_succ]
    obtain ⟨st, hst⟩ : ∃ st, mAll m d l c k s = st := ⟨_, rfl⟩
    rw [hst] at h ⊢
    have hg := ih (l.set c (2 ^ s)) st.1
    have hn := h.nle
    have hn2 := hg.nle
    refine ⟨fun i hi => (hg.pre i (by omega)).trans (h.pre i hi), (hg.pre _ (by omega)).trans h.at_, ?_, ?_⟩
    · show _ ≤ (makeF m d (l.set c (2 ^ s)) st.1).1.nd.length
      omega
    · show (st.2 ++ [_]).length = s + 1
      rw [List.length_append, h.len]; rfl
theorem mkK {m : Mx} : ∀ (d : Nat) (l : List Int) (k : Kx), MkK k (makeF m d l k).1 := by
  intro d
  induction d with
  | zero => exact fun l k => ⟨fun _ _ => rfl, Nat.le_refl _⟩
  | succ d ih =>
    intro l k
    cases hf : fullK k with
    | true => rw [make_full hf]; exact ⟨fun _ _ => rfl, Nat.le_refl _⟩
    | false =>
      cases hch : (charF (remL m.rows l) l).2.1 with
      | true =>
        obtain ⟨c, _, hc, _⟩ := best_ok (L := remL m.rows l) (l := l) (P := fun c => usefulF (remL m.rows l) c (l.getD c 0)) l.length hch
        rw [make_node hf hch hc]
        have h := maK_all (c := c) (l := l) (k := k) ih (m.st.getD c 0).toNat
        refine ⟨fun i hi => ?_, ?_⟩
        · show ((mAll m d l c k _).1.nd.set _ _)[i]? = _
          rw [List.getElem?_set_ne (by omega)]
          exact h.pre i hi
        · show _ ≤ ((mAll m d l c k _).1.nd.set _ _).length
          rw [List.length_set]
          have := h.nle
          omega
      | false =>
        rw [make_leaf hf hch]
        exact ⟨fun _ _ => rfl, Nat.le_refl _⟩
end Go.Ky
namespace Go.Proofs.YthfegbcbpeedbaaDoor
open Go.RowKit Go.Nm Go.Ky

/-- a list of numbers of the call's own, from a block on; other blocks may turn -/
def Nx (B : Nat) (v : Value) (L : List Int) (X : World) : Prop := X.ownsRow B 3 1 v L.length (intsV L)
section
variable {R : Nat → Prop} {W X Y : World} {m1 m2 : Value} {gk B : Nat} {k : Kx} {vn vl v v' : Value} {L : List Int}
theorem Nx.start (B : Nat) (X : World) : Nx B (.slice none 0 0) [] X := World.ownsRow_nil _ _ _ _
theorem Nx.chg {O : Nat → Prop} (h : Nx B v L X) (hc : Chg O X Y) (ho : ∀ g, v.ownBlock = some g → ¬ O g) : Nx B v L Y := by
  obtain ⟨h1, h2⟩ := h
  refine ⟨h1, ?_⟩
  rcases h2 with h2 | ⟨g, cap, cur, e, hb, hg, h3⟩
  · exact .inl h2
  · exact .inr ⟨g, cap, cur, e, hb, hc.2 g _ hg (ho g (by rw [e]; rfl)), h3⟩
theorem Nx.sl (h : Nx B v L X) : InSl X X.heap.size v L := by
  rcases h.2 with ⟨rfl, h0⟩ | ⟨g, cap, cur, rfl, hb, hg, h1, h2, h3, h4⟩
  · have := List.length_eq_zero_iff.1 h0
    subst this
    exact InSl.nil _ _
  · refine ⟨_, _, rfl, h1, h2, fun i x hx => ⟨_, rfl, (Array.getElem?_eq_some_iff.1 hg).1, ?_⟩⟩
    exact World.ownsRow.cells h (g := g) rfl i _ (by rw [intsV, List.getElem?_map, hx]; rfl)
theorem Nx.form (h : Nx B v L X) : ∃ A c, v = .slice A L.length c := own_slice_form h
/-- the builder beside which a list of the call's own grows -/
theorem KbS.app (h : KbS (fun g => R g ∨ v.ownBlock = some g) W m1 m2 gk k vn vl X) (hg : X.grownBy Y v.ownBlock) (hob : v'.ownBlock = v.ownBlock ∨ v'.ownBlock = some X.heap.size) (hv : ∀ g, v.ownBlock = some g → W.heap.size ≤ g ∧ ¬ Ob gk vn.ownBlock vl.ownBlock g) :
    KbS (fun g => R g ∨ v'.ownBlock = some g) W m1 m2 gk k vn vl Y := by
  have h1 := h.more (g0 := X.heap.size) (Nat.le_refl _)
  have h2 := h1.outR hg (fun g e => ⟨.inl (.inr e), hv g e⟩)
  refine h2.less fun g h3 => ?_
  rcases h3 with h3 | h3
  · exact .inl (.inl h3)
  · rcases hob with h4 | h4
    · exact .inl (.inr (h4.symm.trans h3))
    · rw [h4] at h3; injection h3 with h3; exact .inr h3.symm
end
/-- an append of a number to such a list -/
theorem wpList_app_nx {ops : Array Oper} {rest : List Oper} {o : Oper} {a : Act} {Q : Exit → Act → World → Prop} {w : World} {B g : Nat} {v : Value} {L : List Int} {z : Int} (hgd : o.guard = none) (s x : Operand)
    (ho : o.op = .call { callee := .builtin .append, args := #[s, x], argTypes := #[22, 22] }) (hs : a.eval s = v) (hO : Nx B v L w) (hB : B ≤ w.heap.size) (hx : a.eval x = .slice (some ⟨g, 0, none⟩) 1 1) (hc : w.heap[g]? = some (.cells #[.int .i64 z] 3)) (hl : L.length ≤ 100000)
    (h : ∀ v' w', Nx B v' (L ++ [z]) w' → w.grownBy w' v.ownBlock → (v'.ownBlock = v.ownBlock ∨ v'.ownBlock = some w.heap.size) → wpList Tryd.prog ops Q rest (a.put o.dst v') w') : wpList Tryd.prog ops Q (o :: rest) a w := by
  refine wpList_plain hgd fun _ hK2 => ?_
  obtain ⟨i0, hi0, hz0, hz1, hz2⟩ := infoI
  obtain ⟨v', w', hr', h2, h3, _, h5⟩ := run_append_own_at (P := Tryd.prog) (w := w) B 22 o.type 3 i0 _ 1 8 Tryd.underlying22 hi0 hz0 hz1 hz2 rfl (by decide) v L.length (intsV L) hO ⟨g, 0, none⟩ 1 1 [.int .i64 z] rfl
    (fun j u hj => by rw [add_zero_k]; simpa [World.cell?, hc] using hj) (fun u hu => by simp at hu; subst hu; rfl) (by unfold maxLen; omega) (by omega) hB
  unfold Oper.wp execOp
  simp only [ho, resolve, invoke, builtin, Sem.run_bind, Sem.run_pure, Result.andThen_ok, List.map_toArray, List.map_cons, List.map_nil, hs, hx, hr']
  refine hK2 _ _ (h _ _ ?_ h3 h5)
  show World.ownsRow _ _ _ _ _ _ _
  rw [List.length_append, intsV_append]
  exact h2
/-- an append of a list to the key's leaves -/
theorem wpList_app_lw {W : World} {n : Nat} {vals : List Value} {vs r : Value} {ops : Array Oper} {rest : List Oper} {o : Oper} {a : Act} {Q : Exit → Act → World → Prop} {w : World} (hgd : o.guard = none) (s x : Operand) (ho : o.op = .call { callee := .builtin .append, args := #[s, x], argTypes := #[51, 51] })
    (hs : a.eval s = vs) (h : w.ownsRow W.heap.size 22 1 vs n vals) (hb : W.heap.size ≤ w.heap.size) (g : Nat) (hx : a.eval x = .slice (some ⟨g, 0, none⟩) 1 1) (hc : w.heap[g]? = some (.cells #[r] 22)) (h1 : r.oneCell' = true) (hn : n ≤ 100000)
    (hK : ∀ v' w', w'.ownsRow W.heap.size 22 1 v' (n + 1) (vals ++ [r]) → w.grownBy w' vs.ownBlock → (v'.ownBlock = vs.ownBlock ∨ v'.ownBlock = some w.heap.size) → wpList Tryd.prog ops Q rest (a.put o.dst v') w') : wpList Tryd.prog ops Q (o :: rest) a w := by
  refine wpList_plain hgd fun _ hK2 => ?_
  exact run_app_own s x ho hs h hb g hx hc h1 hn fun v' w' h2 h3 h5 => hK2 _ _ (hK _ _ h2 h3 h5)
end Go.Proofs.YthfegbcbpeedbaaDoor
