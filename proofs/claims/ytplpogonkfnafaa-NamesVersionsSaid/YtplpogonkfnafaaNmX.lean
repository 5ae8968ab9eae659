/- A map of numbers of the call's own. -/
import Derived.Test.YtplpogonkfnafaaNmV
import Derived.Maps.OwnSet
import Derived.Maps.OwnOps
namespace Go.Proofs.Ytplpogonkfnafaa
open Go.RowKit Go.Nm Go.Maps

theorem keyI : Keyed Try.prog 3 := int_keyed Try.underlying3
theorem zeroI (w : World) : (zeroValue 3).run Try.prog w = .ok (.int .i64 0) w := by kernel_rfl
/-- the map in block mb reads as f -/
structure MI (W : World) (mb n : Nat) (f : Int → Int) (X : World) : Prop where
  bel : Below W.heap.size W X
  new : W.heap.size ≤ mb
  map : ∃ D : DataW Unit, X.ownsMap Try.prog 3 (plainElem Try.prog 3) mb n D ∧ ∀ k, D.atKey (.int .i64 k) (.lit (.int .i64 0)) = .lit (.int .i64 (f k))
  wf : ∀ k, (Lit.int .i64 (f k)).wf = true
/-- .. it has just these keys, each at 1 -/
structure MS (W : World) (mb : Nat) (L : List Int) (X : World) : Prop where
  bel : Below W.heap.size W X
  new : W.heap.size ≤ mb
  map : ∃ D : DataW Unit, X.ownsMap Try.prog 3 (plainElem Try.prog 3) mb L.length D ∧ (∀ k, D.atKey (.int .i64 k) (.lit (.int .i64 0)) = .lit (.int .i64 (if k ∈ L then 1 else 0))) ∧ (∀ k, has D (.int .i64 k) = decide (k ∈ L)) ∧ size D = L.length
theorem ne_lit {a b : Int} (h : a ≠ b) : (Lit.int .i64 a) ≠ .int .i64 b := fun e => h (by injection e)
theorem isK (k : Int) : WideAt.IsKeyLit (.int .i64 k) := trivial
theorem MS.made (W X : World) (hb : Below W.heap.size W X) : MS W X.heap.size [] (X.alloc (.map #[] 0)) :=
  ⟨hb.alloc hb.size _, hb.size, .map [], World.ownsMap_made _ _ _ _, fun _ => rfl, fun _ => rfl, rfl⟩
theorem MS.mi {W X : World} {mb : Nat} {L : List Int} (h : MS W mb L X) : MI W mb L.length (fun k => if k ∈ L then 1 else 0) X := by
  obtain ⟨hb, hn, D, h1, h2, _⟩ := h
  exact ⟨hb, hn, ⟨D, h1, h2⟩, fun k => by split <;> decide⟩
theorem MI.mono {W X : World} {mb n n' : Nat} {f : Int → Int} (h : MI W mb n f X) (hn : n ≤ n') : MI W mb n' f X := by
  obtain ⟨hb, hw, ⟨D, h1, h2⟩, h3⟩ := h
  exact ⟨hb, hw, ⟨D, h1.mono hn, h2⟩, h3⟩
theorem MI.alloc {W X : World} {mb n : Nat} {f : Int → Int} (h : MI W mb n f X) (o : Obj) : MI W mb n f (X.alloc o) := by
  obtain ⟨hb, hw, ⟨D, h1, h2⟩, h3⟩ := h
  exact ⟨hb.alloc hb.size _, hw, ⟨D, h1.alloc o, h2⟩, h3⟩
theorem MI.drew {W X : World} {mb n : Nat} {f : Int → Int} (h : MI W mb n f X) : MI W mb n f X.drew := by
  obtain ⟨hb, hw, ⟨D, h1, h2⟩, h3⟩ := h
  exact ⟨hb.drew, hw, ⟨D, h1.drew, h2⟩, h3⟩
section
variable {ops : Array Oper} {rest : List Oper} {o : Oper} {a : Act} {Q : Exit → Act → World → Prop} {W w : World} {mb n : Nat} {f : Int → Int} {L : List Int}
theorem wpList_lookup_mi (hg : o.guard = none) (m x : Operand) (hop : o.op = Op.lookup 101 m x false) (hM : MI W mb n f w) (hm : a.eval m = .map (some mb)) (z : Int) (hx : a.eval x = .int .i64 z) (hz : (Lit.int .i64 z).wf = true)
    (hK : wpList Try.prog ops Q rest (a.put o.dst (.int .i64 (f z))) w) : wpList Try.prog ops Q (o :: rest) a w := by
  obtain ⟨_, _, ⟨D, h1, h2⟩, _⟩ := hM
  refine wpList_lookup_own_int w hg m x 101 hop 3 3 .i64 keyI Try.underlying101 Try.underlying3 (zeroI _) mb n D hm h1 _ _ hx (keyOf_int_mk Try.underlying3 hz) ?_
  intro c hat _
  have := (h2 z).symm.trans hat
  injection this with h; injection h with _ h
  rw [← h]; exact hK
theorem wpList_put_mi (hg : o.guard = none) (m x v : Operand) (hop : o.op = Op.mapUpdate 101 m x v) (hM : MI W mb n f w) (hn : n < maxLen) (hm : a.eval m = .map (some mb)) (z : Int) (hx : a.eval x = .int .i64 z) (hz : (Lit.int .i64 z).wf = true) (c : Int) (hv : a.eval v = .int .i64 c) (hc : (Lit.int .i64 c).wf = true)
    (hK : ∀ w', MI W mb (n + 1) (fun k => if k = z then c else f k) w' → w.grownBy w' (some mb) → wpList Try.prog ops Q rest (a.put o.dst undef) w') : wpList Try.prog ops Q (o :: rest) a w := by
  obtain ⟨hb, hw, ⟨D, h1, h2⟩, h3⟩ := hM
  refine wpList_mapUpdate_in w hg m x v 101 hop 3 3 keyI Try.underlying101 _ mb n D hm h1 hn _ _ _ hx hv (keyOf_int_mk Try.underlying3 hz) _ [] (plainElem_int Try.underlying3 hc) ?_
  intro w' h4 h5
  refine hK w' ⟨hb.grown h5.grown hb.size (fun k e => by cases e; exact hw), hw, ⟨_, h4, fun k => ?_⟩, fun k => by (try dsimp only); split; exact hc; exact h3 k⟩ h5.grown
  by_cases hk : k = z
  · subst hk; rw [atKey_put_same h1.isMap (isK _), if_pos rfl]
  · rw [atKey_put_other (ne_lit hk), h2, if_neg hk]
theorem wpList_del_mi (hg : o.guard = none) (m x : Operand) (hop : o.op = Op.call { callee := Callee.builtin Builtin.delete, args := #[m, x], argTypes := #[101, 3] }) (hM : MI W mb n f w) (hm : a.eval m = .map (some mb)) (z : Int) (hx : a.eval x = .int .i64 z) (hz : (Lit.int .i64 z).wf = true)
    (hK : ∀ w', MI W mb n (fun k => if k = z then 0 else f k) w' → w.grownBy w' (some mb) → wpList Try.prog ops Q rest (a.put o.dst (.tuple #[])) w') : wpList Try.prog ops Q (o :: rest) a w := by
  obtain ⟨hb, hw, ⟨D, h1, h2⟩, h3⟩ := hM
  refine wpList_delete_own w hg m x 101 3 hop 3 keyI Try.underlying101 _ mb n D hm h1 _ _ hx (keyOf_int_mk Try.underlying3 hz) ?_
  intro w' h4 h5
  refine hK w' ⟨hb.grown h5.grown hb.size (fun k e => by cases e; exact hw), hw, ⟨_, h4, fun k => ?_⟩, fun k => by (try dsimp only); split; decide; exact h3 k⟩ h5.grown
  by_cases hk : k = z
  · subst hk; rw [atKey_del_same, if_pos rfl]
  · rw [atKey_del_other (ne_lit hk), h2, if_neg hk]
theorem wpList_put_ms (hg : o.guard = none) (m x v : Operand) (hop : o.op = Op.mapUpdate 101 m x v) (hM : MS W mb L w) (hn : L.length < maxLen) (hm : a.eval m = .map (some mb)) (z : Int) (hx : a.eval x = .int .i64 z) (hz : (Lit.int .i64 z).wf = true) (hzL : z ∉ L) (hv : a.eval v = .int .i64 1)
    (hK : ∀ w', MS W mb (L ++ [z]) w' → w.grownBy w' (some mb) → wpList Try.prog ops Q rest (a.put o.dst undef) w') : wpList Try.prog ops Q (o :: rest) a w := by
  obtain ⟨hb, hw, D, h1, h2, h3, h6⟩ := hM
  refine wpList_mapUpdate_in w hg m x v 101 hop 3 3 keyI Try.underlying101 _ mb L.length D hm h1 hn _ _ _ hx hv (keyOf_int_mk Try.underlying3 hz) _ [] (plainElem_int Try.underlying3 (by decide)) ?_
  intro w' h4 h5
  refine hK w' ⟨hb.grown h5.grown hb.size (fun k e => by cases e; exact hw), hw, _, by rw [List.length_append]; exact h4, fun k => ?_, fun k => ?_, ?_⟩ h5.grown
  · by_cases hk : k = z
    · subst hk; rw [atKey_put_same h1.isMap (isK _), if_pos (by simp)]
    · rw [atKey_put_other (ne_lit hk), h2]; simp [hk]
  · by_cases hk : k = z
    · subst hk; rw [has_put_same h1.isMap (isK _)]; simp
    · rw [has_put_other (ne_lit hk), h3]; simp [hk]
  · rw [size_put (h1.tidy keyI), h3, h6]; simp [hzL]
theorem wpList_len_ms (hg : o.guard = none) (m : Operand) (hop : o.op = Op.call { callee := Callee.builtin Builtin.len, args := #[m], argTypes := #[101] }) (hM : MS W mb L w) (hm : a.eval m = .map (some mb)) (nn : Nat) (hl : L.length = nn)
    (hK : wpList Try.prog ops Q rest (a.put o.dst (.int .i64 nn)) w) : wpList Try.prog ops Q (o :: rest) a w := by
  obtain ⟨hb, hw, D, h1, h2, h3, h6⟩ := hM
  refine wpList_len_own w hg m 101 hop 3 3 Try.underlying101 _ mb _ D hm h1 ?_
  rw [h6, hl]; exact hK
end
def takeS (p : (Int → Int) × Int) (x : Int) : (Int → Int) × Int := (fun k => if k = x then 0 else p.1 k, wrap64 (p.2 + p.1 x))
def takeF (f : Int → Int) (l : List Int) : (Int → Int) × Int := l.foldl takeS (f, 0)
def putS (c : Int) (f : Int → Int) (x : Int) : Int → Int := fun k => if k = x then c else f k
def putF (f : Int → Int) (c : Int) (l : List Int) : Int → Int := l.foldl (putS c) f
def chS (p : (Int → Int) × Int) (c : Ch) : (Int → Int) × Int := (putF (takeF p.1 c.fr).1 (takeF p.1 c.fr).2 c.to, wrap64 (p.2 + wrap64 ((takeF p.1 c.fr).2 * ((c.to.length : Int) - 1))))
def cntF : List Ch → (Int → Int) × Int → Int
  | [], p => p.2
  | c :: r, p => if p.2 > 2048 then p.2 else cntF r (chS p c)
def cnt (b : Bk) : Int := cntF b.chs (fun k => if k ∈ b.first then 1 else 0, b.first.length)
theorem take_next {l : List Int} {j : Nat} {x : Int} (h : l[j]? = some x) : l.take (j + 1) = l.take j ++ [x] := by
  rw [List.take_add_one, h]; rfl
theorem takeF_next {f : Int → Int} {l : List Int} {j : Nat} {x : Int} (h : l[j]? = some x) : takeF f (l.take (j + 1)) = takeS (takeF f (l.take j)) x := by
  unfold takeF; rw [take_next h, List.foldl_append]; rfl
theorem putF_next {f : Int → Int} {c : Int} {l : List Int} {j : Nat} {x : Int} (h : l[j]? = some x) : putF f c (l.take (j + 1)) = putS c (putF f c (l.take j)) x := by
  unfold putF; rw [take_next h, List.foldl_append]; rfl
theorem cntF_next {l : List Ch} {k : Nat} {c : Ch} (h : l[k]? = some c) (p : (Int → Int) × Int) : cntF (l.drop k) p = if p.2 > 2048 then p.2 else cntF (l.drop (k + 1)) (chS p c) := by
  obtain ⟨hk, rfl⟩ := List.getElem?_eq_some_iff.1 h
  rw [List.drop_eq_getElem_cons hk]; rfl
end Go.Proofs.Ytplpogonkfnafaa
