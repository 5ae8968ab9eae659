
/- Books of names as plain mathematics: lists of names, versions, meanings. -/
namespace Go.Nm

structure Ch where
  yr : Int
  fr : List Int
  to : List Int
deriving DecidableEq
structure Bk where
  first : List Int
  chs : List Ch
deriving DecidableEq

/-- strictly increasing -/
def Inc (L : List Int) : Prop := L.Pairwise (· < ·)
instance (L : List Int) : Decidable (Inc L) := inferInstanceAs (Decidable (L.Pairwise (· < ·)))
def Nms (L : List Int) : Prop := Inc L ∧ ∀ x ∈ L, 1 ≤ x ∧ x ≤ 65535
instance (L : List Int) : Decidable (Nms L) := inferInstanceAs (Decidable (_ ∧ _))
def Ver (L : List Int) : Prop := 0 < L.length ∧ L.length ≤ 400 ∧ Nms L
instance (L : List Int) : Decidable (Ver L) := inferInstanceAs (Decidable (_ ∧ _ ∧ _))

/-- the names of a list that are not in another one, as the program goes through both -/
def wo : List Int → List Int → List Int
  | [], _ => []
  | x :: l, g => if (g.dropWhile (fun y => decide (y < x))).head? = some x then wo l (g.dropWhile (fun y => decide (y < x))) else x :: wo l (g.dropWhile (fun y => decide (y < x)))
/-- the names of two lists, as the program goes through both -/
def mg : List Int → List Int → List Int
  | [], b => b
  | x :: a, b => b.takeWhile (fun y => decide (y < x)) ++ x :: mg a (b.dropWhile (fun y => decide (y < x)))
def rep (l fr to : List Int) : List Int := if (wo l fr).length = l.length then l else mg (wo l fr) to

theorem wo_sub : ∀ (l g : List Int), (wo l g).Sublist l
  | [], _ => by simp [wo]
  | x :: l, g => by
    unfold wo
    split
    · exact (wo_sub l _).cons x
    · exact (wo_sub l _).cons_cons x
theorem wo_len (l g : List Int) : (wo l g).length ≤ l.length := (wo_sub l g).length_le
theorem Inc.sub {a b : List Int} (h : Inc b) (hs : a.Sublist b) : Inc a := List.Pairwise.sublist hs h
theorem Inc.tail {x : Int} {l : List Int} (h : Inc (x :: l)) : Inc l := (List.pairwise_cons.1 h).2
theorem Inc.head {x : Int} {l : List Int} (h : Inc (x :: l)) : ∀ y ∈ l, x < y := (List.pairwise_cons.1 h).1
theorem drop_inc {x : Int} : ∀ {g : List Int}, Inc g → Inc (g.dropWhile fun y => decide (y < x))
  | [], _ => by simp [Inc]
  | a :: g, h => by
    rw [List.dropWhile_cons]
    split
    · exact drop_inc h.tail
    · exact h
theorem mem_drop {x z : Int} (hz : x ≤ z) : ∀ {g : List Int}, Inc g → (z ∈ g.dropWhile (fun y => decide (y < x)) ↔ z ∈ g)
  | [], _ => by simp
  | a :: g, h => by
    rw [List.dropWhile_cons]
    split
    · rename_i hlt
      have hlt : a < x := by simpa using hlt
      rw [mem_drop hz h.tail, List.mem_cons]
      exact ⟨.inr, fun h => h.elim (fun e => by omega) id⟩
    · exact Iff.rfl
theorem head_drop {x : Int} : ∀ {g : List Int}, Inc g → ((g.dropWhile (fun y => decide (y < x))).head? = some x ↔ x ∈ g)
  | [], _ => by simp
  | a :: g, h => by
    rw [List.dropWhile_cons]
    split
    · rename_i hlt
      have hlt : a < x := by simpa using hlt
      rw [head_drop h.tail, List.mem_cons]
      exact ⟨.inr, fun h => h.elim (fun e => by omega) id⟩
    · rename_i hlt
      have hlt : ¬ a < x := by simpa using hlt
      rw [List.head?_cons, List.mem_cons]
      constructor
      · intro e; injection e with e; exact .inl e.symm
      · rintro (e | e)
        · rw [e]
        · have := h.head x e; omega
theorem mem_wo : ∀ {l g : List Int}, Inc l → Inc g → ∀ z, (z ∈ wo l g ↔ z ∈ l ∧ z ∉ g)
  | [], g, _, _, z => by simp [wo]
  | x :: l, g, hl, hg, z => by
    have hd := drop_inc (x := x) hg
    have ih := mem_wo hl.tail hd z
    have key : z ∈ l → (z ∈ g.dropWhile (fun y => decide (y < x)) ↔ z ∈ g) := fun hz => mem_drop (Int.le_of_lt (hl.head z hz)) hg
    unfold wo
    by_cases hx : x ∈ g
    · rw [if_pos ((head_drop hg).2 hx), ih, List.mem_cons]
      constructor
      · rintro ⟨h1, h2⟩; exact ⟨.inr h1, fun h => h2 ((key h1).2 h)⟩
      · rintro ⟨h1 | h1, h2⟩
        · subst h1; exact absurd hx h2
        · exact ⟨h1, fun h => h2 ((key h1).1 h)⟩
    · rw [if_neg (fun h => hx ((head_drop hg).1 h)), List.mem_cons, List.mem_cons, ih]
      constructor
      · rintro (h1 | ⟨h1, h2⟩)
        · subst h1; exact ⟨.inl rfl, hx⟩
        · exact ⟨.inr h1, fun h => h2 ((key h1).2 h)⟩
      · rintro ⟨h1 | h1, h2⟩
        · exact .inl h1
        · exact .inr ⟨h1, fun h => h2 ((key h1).1 h)⟩
theorem wo_inc {l g : List Int} (h : Inc l) : Inc (wo l g) := h.sub (wo_sub l g)
theorem mg_perm : ∀ (a b : List Int), (mg a b).Perm (a ++ b)
  | [], b => by simp [mg]
  | x :: a, b => by
    unfold mg
    refine List.Perm.trans (List.perm_middle) ?_
    refine List.Perm.cons x ?_
    refine (List.Perm.append_left _ (mg_perm a _)).trans ?_
    rw [← List.append_assoc]
    refine (List.Perm.append_right _ List.perm_append_comm).trans ?_
    rw [List.append_assoc, List.takeWhile_append_dropWhile]
    exact List.Perm.refl _
theorem mem_mg {a b : List Int} {z : Int} : z ∈ mg a b ↔ z ∈ a ∨ z ∈ b := by rw [(mg_perm a b).mem_iff, List.mem_append]
theorem mg_len (a b : List Int) : (mg a b).length = a.length + b.length := by rw [(mg_perm a b).length_eq, List.length_append]
theorem take_lt {x : Int} : ∀ {g : List Int}, ∀ z ∈ g.takeWhile (fun y => decide (y < x)), z < x
  | [], z, h => by simp at h
  | a :: g, z, h => by
    rw [List.takeWhile_cons] at h
    split at h
    · rename_i hlt
      rcases List.mem_cons.1 h with rfl | h
      · simpa using hlt
      · exact take_lt z h
    · simp at h
theorem drop_ge {x : Int} : ∀ {g : List Int}, Inc g → ∀ z ∈ g.dropWhile (fun y => decide (y < x)), x ≤ z
  | [], _, z, h => by simp at h
  | a :: g, hg, z, h => by
    rw [List.dropWhile_cons] at h
    split at h
    · exact drop_ge hg.tail z h
    · rename_i hlt
      have hlt : ¬ a < x := by simpa using hlt
      rcases List.mem_cons.1 h with rfl | h
      · omega
      · have := hg.head z h; omega
theorem mg_inc : ∀ {a b : List Int}, Inc a → Inc b → (∀ z ∈ a, z ∉ b) → Inc (mg a b)
  | [], b, _, hb, _ => by simpa [mg] using hb
  | x :: a, b, ha, hb, hd => by
    unfold mg
    have hx : x ∉ b := hd x List.mem_cons_self
    refine List.pairwise_append.2 ⟨List.Pairwise.sublist (List.takeWhile_sublist _) hb, List.pairwise_cons.2 ⟨fun z hz => ?_, mg_inc ha.tail (drop_inc hb) fun z hz hzb => hd z (List.mem_cons_of_mem _ hz) ((List.dropWhile_sublist _).mem hzb)⟩, fun y hy z hz => ?_⟩
    · rcases mem_mg.1 hz with h | h
      · exact ha.head z h
      · have h1 := drop_ge hb z h
        have h2 : z ≠ x := fun e => hx (by rw [← e]; exact (List.dropWhile_sublist _).mem h)
        omega
    · have h1 := take_lt y hy
      rcases List.mem_cons.1 hz with rfl | hz
      · exact h1
      · rcases mem_mg.1 hz with h | h
        · have := ha.head z h; omega
        · have := drop_ge hb z h; omega
theorem inc_ext : ∀ {a b : List Int}, Inc a → Inc b → (∀ z, z ∈ a ↔ z ∈ b) → a = b
  | [], [], _, _, _ => rfl
  | [], y :: b, _, _, h => absurd ((h y).2 List.mem_cons_self) (by simp)
  | x :: a, [], _, _, h => absurd ((h x).1 List.mem_cons_self) (by simp)
  | x :: a, y :: b, ha, hb, h => by
    have e : x = y := by
      have h1 := (h x).1 List.mem_cons_self
      have h2 := (h y).2 List.mem_cons_self
      rcases List.mem_cons.1 h1 with e | h1
      · exact e
      · rcases List.mem_cons.1 h2 with e | h2
        · exact e.symm
        · have := hb.head x h1; have := ha.head y h2; omega
    subst e
    congr 1
    refine inc_ext ha.tail hb.tail fun z => ?_
    constructor
    · intro hz
      rcases List.mem_cons.1 ((h z).1 (List.mem_cons_of_mem _ hz)) with e | h'
      · subst e; exact absurd (ha.head z hz) (by omega)
      · exact h'
    · intro hz
      rcases List.mem_cons.1 ((h z).2 (List.mem_cons_of_mem _ hz)) with e | h'
      · subst e; exact absurd (hb.head z hz) (by omega)
      · exact h'

/-- what replaces is as the terms say -/
theorem mem_rep {l fr to : List Int} (hl : Inc l) (hf : Inc fr) {z : Int} : z ∈ rep l fr to ↔ (z ∈ l ∧ z ∉ fr) ∨ (z ∈ to ∧ ∃ y ∈ l, y ∈ fr) := by
  unfold rep
  split
  · rename_i h
    have e : wo l fr = l := (wo_sub l fr).eq_of_length h
    have hno : ∀ y ∈ l, y ∉ fr := fun y hy => ((mem_wo hl hf y).1 (by rw [e]; exact hy)).2
    exact ⟨fun h => .inl ⟨h, hno z h⟩, fun h => h.elim And.left fun ⟨_, y, h1, h2⟩ => absurd h2 (hno y h1)⟩
  · rename_i h
    have hsome : ∃ y ∈ l, y ∈ fr := Classical.byContradiction fun hn => h (by
      rw [inc_ext (wo_inc (g := fr) hl) hl fun z => (mem_wo hl hf z).trans ⟨And.left, fun hz => ⟨hz, fun hz2 => hn ⟨z, hz, hz2⟩⟩⟩])
    rw [mem_mg, mem_wo hl hf]
    exact ⟨fun h => h.elim .inl fun h => .inr ⟨h, hsome⟩, fun h => h.elim .inl fun h => .inr h.1⟩
theorem rep_inc {l fr to : List Int} (hl : Inc l) (hf : Inc fr) (ht : Inc to) (hd : ∀ z ∈ to, z ∈ l → z ∈ fr) : Inc (rep l fr to) := by
  unfold rep
  split
  · exact hl
  · exact mg_inc (wo_inc hl) ht fun z hz hzt => ((mem_wo hl hf z).1 hz).2 (hd z hzt ((mem_wo hl hf z).1 hz).1)
theorem rep_none {l fr to : List Int} (hl : Inc l) (hf : Inc fr) (h : ∀ z ∈ l, z ∉ fr) : rep l fr to = l := by
  unfold rep
  rw [if_pos]
  rw [inc_ext (wo_inc (g := fr) hl) hl fun z => (mem_wo hl hf z).trans ⟨And.left, fun hz => ⟨hz, h z hz⟩⟩]
/-! books -/
/-- a change can be applied -/
def okCh (ahead : List Int) (year : Int) (x : Ch) : Prop :=
  year ≤ x.yr ∧ x.yr ≤ 273 ∧ Ver x.fr ∧ Ver x.to ∧ wo x.fr ahead = [] ∧ (∀ n ∈ wo x.to x.fr, n ∉ ahead) ∧ (rep ahead x.fr x.to).length ≤ 400
instance (a : List Int) (y : Int) (x : Ch) : Decidable (okCh a y x) := inferInstanceAs (Decidable (_ ∧ _ ∧ _ ∧ _ ∧ _ ∧ _ ∧ _))
/-- the versions, up to the first change that cannot be applied -/
def versF : List Int → Int → List Ch → List (List Int)
  | a, _, [] => [a]
  | a, y, x :: l => if okCh a y x then a :: versF (rep a x.fr x.to) x.yr l else [a]
def vers (b : Bk) : List (List Int) := if Ver b.first then versF b.first 0 b.chs else []
def Val (b : Bk) : Prop := b.chs.length ≤ 64 ∧ b.chs.length < (vers b).length
instance (b : Bk) : Decidable (Val b) := inferInstanceAs (Decidable (_ ∧ _))
theorem versF_len : ∀ (l : List Ch) (a : List Int) (y : Int), (versF a y l).length ≤ l.length + 1
  | [], a, y => by simp [versF]
  | x :: l, a, y => by
    unfold versF
    split
    · have := versF_len l (rep a x.fr x.to) x.yr; simp; omega
    · simp
/-- a step -/
def fwd (b : Bk) (i : Nat) (l : List Int) : List Int := match b.chs[i]? with | some x => rep l x.fr x.to | none => l
def bwd (b : Bk) (i : Nat) (l : List Int) : List Int := match b.chs[i]? with | some x => rep l x.to x.fr | none => l
end Go.Nm
