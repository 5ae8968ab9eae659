
/- Lists, rows of lists and maps in memory. -/
import Derived.Test.YtijidcigfdblaaaGreatDoorProg
import Derived.WalkKit
import Derived.WalkSpells
import Derived.WalkLawsBesides
import Derived.Deep.QuietTactic
import Derived.BigQuiet
import Derived.IntWalk
import Derived.Outline
import Derived.Lib.Hide
import Derived.Laws.OwnMore
import Derived.WalkMore
import Derived.Deep.LoopGhost
import Derived.Laws.AppendOwn
import Derived.Maps.AppendAt
import Derived.OwnWalk
import Derived.RangeFuncBox
import Derived.Test.YtijidcigfdblaaaGreatDoorRows
import Derived.Lib.SmallJoins
import Derived.Deep.Slices
import Derived.Deep.Fields
import Derived.ChangeSame
import Derived.ChangeSlices
import Derived.Carry
import Derived.OpenShut
import Derived.ProofKit
import Derived.JoinedOf
import Derived.Handed
import Derived.Orders
import Derived.Laws.World
import Derived.Lib.SliceRun
import Derived.StillTailTactics
import Derived.Maps.OwnSet
import Derived.Maps.OwnOps
namespace Go.Nm

structure Ch where
  yr : Int
  fr : List Int
  to : List Int
deriving DecidableEq
structure Bk where
  first : List Int
  chs : List Ch
deriving DecidableEq

/-- strictly increasing -/
def Inc (L : List Int) : Prop := L.Pairwise (· < ·)
instance (L : List Int) : Decidable (Inc L) := inferInstanceAs (Decidable (L.Pairwise (· < ·)))
def Nms (L : List Int) : Prop := Inc L ∧ ∀ x ∈ L, 1 ≤ x ∧ x ≤ 65535
instance (L : List Int) : Decidable (Nms L) := inferInstanceAs (Decidable (_ ∧ _))
def Ver (L : List Int) : Prop := 0 < L.length ∧ L.length ≤ 400 ∧ Nms L
instance (L : List Int) : Decidable (Ver L) := inferInstanceAs (Decidable (_ ∧ _ ∧ _))

/-- the names of a list that are not in another one, as the program goes through both -/
def wo : List Int → List Int → List Int
  | [], _ => []
  | x :: l, g => if (g.dropWhile (fun y => decide (y < x))).head? = some x then wo l (g.dropWhile (fun y => decide (y < x))) else x :: wo l (g.dropWhile (fun y => decide (y < x)))
/-- the names of two lists, as the program goes through both -/
def mg : List Int → List Int → List Int
  | [], b => b
  | x :: a, b => b.takeWhile (fun y => decide (y < x)) ++ x :: mg a (b.dropWhile (fun y => decide (y < x)))
def rep (l fr to : List Int) : List Int := if (wo l fr).length = l.length then l else mg (wo l fr) to

theorem wo_sub : ∀ (l g : List Int), (wo l g).Sublist l
  | [], _ => by simp [wo]
  | x :: l, g => by
    unfold wo
    split
    · exact (wo_sub l _).cons x
    · exact (wo_sub l _).cons_cons x
theorem wo_len (l g : List Int) : (wo l g).length ≤ l.length := (wo_sub l g).length_le
theorem Inc.sub {a b : List Int} (h : Inc b) (hs : a.Sublist b) : Inc a := List.Pairwise.sublist hs h
theorem Inc.tail {x : Int} {l : List Int} (h : Inc (x :: l)) : Inc l := (List.pairwise_cons.1 h).2
theorem Inc.head {x : Int} {l : List Int} (h : Inc (x :: l)) : ∀ y ∈ l, x < y := (List.pairwise_cons.1 h).1
theorem drop_inc {x : Int} : ∀ {g : List Int}, Inc g → Inc (g.dropWhile fun y => decide (y < x))
  | [], _ => by simp [Inc]
  | a :: g, h => by
    rw [List.dropWhile_cons]
    split
    · exact drop_inc h.tail
    · exact h
theorem mem_drop {x z : Int} (hz : x ≤ z) : ∀ {g : List Int}, Inc g → (z ∈ g.dropWhile (fun y => decide (y < x)) ↔ z ∈ g)
  | [], _ => by simp
  | a :: g, h => by
    rw [List.dropWhile_cons]
    split
    · rename_i hlt
      have hlt : a < x := by simpa using hlt
      rw [mem_drop hz h.tail, List.mem_cons]
      exact ⟨.inr, fun h => h.elim (fun e => by omega) id⟩
    · exact Iff.rfl
theorem head_drop {x : Int} : ∀ {g : List Int}, Inc g → ((g.dropWhile (fun y => decide (y < x))).head? = some x ↔ x ∈ g)
  | [], _ => by simp
  | a :: g, h => by
    rw [List.dropWhile_cons]
    split
    · rename_i hlt
      have hlt : a < x := by simpa using hlt
      rw [head_drop h.tail, List.mem_cons]
      exact ⟨.inr, fun h => h.elim (fun e => by omega) id⟩
    · rename_i hlt
      have hlt : ¬ a < x := by simpa using hlt
      rw [List.head?_cons, List.mem_cons]
      constructor
      · intro e; injection e with e; exact .inl e.symm
      · rintro (e | e)
        · rw [e]
        · have := h.head x e; omega
theorem mem_wo : ∀ {l g : List Int}, Inc l → Inc g → ∀ z, (z ∈ wo l g ↔ z ∈ l ∧ z ∉ g)
  | [], g, _, _, z => by simp [wo]
  | x :: l, g, hl, hg, z => by
    have hd := drop_inc (x := x) hg
    have ih := mem_wo hl.tail hd z
    have key : z ∈ l → (z ∈ g.dropWhile (fun y => decide (y < x)) ↔ z ∈ g) := fun hz => mem_drop (Int.le_of_lt (hl.head z hz)) hg
    unfold wo
    by_cases hx : x ∈ g
    · rw [if_pos ((head_drop hg).2 hx), ih, List.mem_cons]
      constructor
      · rintro ⟨h1, h2⟩; exact ⟨.inr h1, fun h => h2 ((key h1).2 h)⟩
      · rintro ⟨h1 | h1, h2⟩
        · subst h1; exact absurd hx h2
        · exact ⟨h1, fun h => h2 ((key h1).1 h)⟩
    · rw [if_neg (fun h => hx ((head_drop hg).1 h)), List.mem_cons, List.mem_cons, ih]
      constructor
      · rintro (h1 | ⟨h1, h2⟩)
        · subst h1; exact ⟨.inl rfl, hx⟩
        · exact ⟨.inr h1, fun h => h2 ((key h1).2 h)⟩
      · rintro ⟨h1 | h1, h2⟩
        · exact .inl h1
        · exact .inr ⟨h1, fun h => h2 ((key h1).1 h)⟩
theorem wo_inc {l g : List Int} (h : Inc l) : Inc (wo l g) := h.sub (wo_sub l g)
theorem mg_perm : ∀ (a b : List Int), (mg a b).Perm (a ++ b)
  | [], b => by simp [mg]
  | x :: a, b => by
    unfold mg
    refine List.Perm.trans (List.perm_middle) ?_
    refine List.Perm.cons x ?_
    refine (List.Perm.append_left _ (mg_perm a _)).trans ?_
    rw [← List.append_assoc]
    refine (List.Perm.append_right _ List.perm_append_comm).trans ?_
    rw [List.append_assoc, List.takeWhile_append_dropWhile]
    exact List.Perm.refl _
theorem mem_mg {a b : List Int} {z : Int} : z ∈ mg a b ↔ z ∈ a ∨ z ∈ b := by rw [(mg_perm a b).mem_iff, List.mem_append]
theorem mg_len (a b : List Int) : (mg a b).length = a.length + b.length := by rw [(mg_perm a b).length_eq, List.length_append]
theorem take_lt {x : Int} : ∀ {g : List Int}, ∀ z ∈ g.takeWhile (fun y => decide (y < x)), z < x
  | [], z, h => by simp at h
  | a :: g, z, h => by
    rw [List.takeWhile_cons] at h
    split at h
    · rename_i hlt
      rcases List.mem_cons.1 h with rfl | h
      · simpa using hlt
      · exact take_lt z h
    · simp at h
theorem drop_ge {x : Int} : ∀ {g : List Int}, Inc g → ∀ z ∈ g.dropWhile (fun y => decide (y < x)), x ≤ z
  | [], _, z, h => by simp at h
  | a :: g, hg, z, h => by
    rw [List.dropWhile_cons] at h
    split at h
    · exact drop_ge hg.tail z h
    · rename_i hlt
      have hlt : ¬ a < x := by simpa using hlt
      rcases List.mem_cons.1 h with rfl | h
      · omega
      · have := hg.head z h; omega
theorem mg_inc : ∀ {a b : List Int}, Inc a → Inc b → (∀ z ∈ a, z ∉ b) → Inc (mg a b)
  | [], b, _, hb, _ => by simpa [mg] using hb
  | x :: a, b, ha, hb, hd => by
    unfold mg
    have hx : x ∉ b := hd x List.mem_cons_self
    refine List.pairwise_append.2 ⟨List.Pairwise.sublist (List.takeWhile_sublist _) hb, List.pairwise_cons.2 ⟨fun z hz => ?_, mg_inc ha.tail (drop_inc hb) fun z hz hzb => hd z (List.mem_cons_of_mem _ hz) ((List.dropWhile_sublist _).mem hzb)⟩, fun y hy z hz => ?_⟩
    · rcases mem_mg.1 hz with h | h
      · exact ha.head z h
      · have h1 := drop_ge hb z h
        have h2 : z ≠ x := fun e => hx (by rw [← e]; exact (List.dropWhile_sublist _).mem h)
        omega
    · have h1 := take_lt y hy
      rcases List.mem_cons.1 hz with rfl | hz
      · exact h1
      · rcases mem_mg.1 hz with h | h
        · have := ha.head z h; omega
        · have := drop_ge hb z h; omega
theorem inc_ext : ∀ {a b : List Int}, Inc a → Inc b → (∀ z, z ∈ a ↔ z ∈ b) → a = b
  | [], [], _, _, _ => rfl
  | [], y :: b, _, _, h => absurd ((h y).2 List.mem_cons_self) (by simp)
  | x :: a, [], _, _, h => absurd ((h x).1 List.mem_cons_self) (by simp)
  | x :: a, y :: b, ha, hb, h => by
    have e : x = y := by
      have h1 := (h x).1 List.mem_cons_self
      have h2 := (h y).2 List.mem_cons_self
      rcases List.mem_cons.1 h1 with e | h1
      · exact e
      · rcases List.mem_cons.1 h2 with e | h2
        · exact e.symm
        · have := hb.head x h1; have := ha.head y h2; omega
    subst e
    congr 1
    refine inc_ext ha.tail hb.tail fun z => ?_
    constructor
    · intro hz
      rcases List.mem_cons.1 ((h z).1 (List.mem_cons_of_mem _ hz)) with e | h'
      · subst e; exact absurd (ha.head z hz) (by omega)
      · exact h'
    · intro hz
      rcases List.mem_cons.1 ((h z).2 (List.mem_cons_of_mem _ hz)) with e | h'
      · subst e; exact absurd (hb.head z hz) (by omega)
      · exact h'

/-- what replaces is as the terms say -/
theorem mem_rep {l fr to : List Int} (hl : Inc l) (hf : Inc fr) {z : Int} : z ∈ rep l fr to ↔ (z ∈ l ∧ z ∉ fr) ∨ (z ∈ to ∧ ∃ y ∈ l, y ∈ fr) := by
  unfold rep
  split
  · rename_i h
    have e : wo l fr = l := (wo_sub l fr).eq_of_length h
    have hno : ∀ y ∈ l, y ∉ fr := fun y hy => ((mem_wo hl hf y).1 (by rw [e]; exact hy)).2
    exact ⟨fun h => .inl ⟨h, hno z h⟩, fun h => h.elim And.left fun ⟨_, y, h1, h2⟩ => absurd h2 (hno y h1)⟩
  · rename_i h
    have hsome : ∃ y ∈ l, y ∈ fr := Classical.byContradiction fun hn => h (by
      rw [inc_ext (wo_inc (g := fr) hl) hl fun z => (mem_wo hl hf z).trans ⟨And.left, fun hz => ⟨hz, fun hz2 => hn ⟨z, hz, hz2⟩⟩⟩])
    rw [mem_mg, mem_wo hl hf]
    exact ⟨fun h => h.elim .inl fun h => .inr ⟨h, hsome⟩, fun h => h.elim .inl fun h => .inr h.1⟩
theorem rep_inc {l fr to : List Int} (hl : Inc l) (hf : Inc fr) (ht : Inc to) (hd : ∀ z ∈ to, z ∈ l → z ∈ fr) : Inc (rep l fr to) := by
  unfold rep
  split
  · exact hl
  · exact mg_inc (wo_inc hl) ht fun z hz hzt => ((mem_wo hl hf z).1 hz).2 (hd z hzt ((mem_wo hl hf z).1 hz).1)
theorem rep_none {l fr to : List Int} (hl : Inc l) (hf : Inc fr) (h : ∀ z ∈ l, z ∉ fr) : rep l fr to = l := by
  unfold rep
  rw [if_pos]
  rw [inc_ext (wo_inc (g := fr) hl) hl fun z => (mem_wo hl hf z).trans ⟨And.left, fun hz => ⟨hz, h z hz⟩⟩]
/-! books -/
/-- a change can be applied -/
def okCh (ahead : List Int) (year : Int) (x : Ch) : Prop :=
  year ≤ x.yr ∧ x.yr ≤ 273 ∧ Ver x.fr ∧ Ver x.to ∧ wo x.fr ahead = [] ∧ (∀ n ∈ wo x.to x.fr, n ∉ ahead) ∧ (rep ahead x.fr x.to).length ≤ 400
instance (a : List Int) (y : Int) (x : Ch) : Decidable (okCh a y x) := inferInstanceAs (Decidable (_ ∧ _ ∧ _ ∧ _ ∧ _ ∧ _ ∧ _))
/-- the versions, up to the first change that cannot be applied -/
def versF : List Int → Int → List Ch → List (List Int)
  | a, _, [] => [a]
  | a, y, x :: l => if okCh a y x then a :: versF (rep a x.fr x.to) x.yr l else [a]
def vers (b : Bk) : List (List Int) := if Ver b.first then versF b.first 0 b.chs else []
def Val (b : Bk) : Prop := b.chs.length ≤ 64 ∧ b.chs.length < (vers b).length
instance (b : Bk) : Decidable (Val b) := inferInstanceAs (Decidable (_ ∧ _))
theorem versF_len : ∀ (l : List Ch) (a : List Int) (y : Int), (versF a y l).length ≤ l.length + 1
  | [], a, y => by simp [versF]
  | x :: l, a, y => by
    unfold versF
    split
    · have := versF_len l (rep a x.fr x.to) x.yr; simp; omega
    · simp
/-- a step -/
def fwd (b : Bk) (i : Nat) (l : List Int) : List Int := match b.chs[i]? with | some x => rep l x.fr x.to | none => l
def bwd (b : Bk) (i : Nat) (l : List Int) : List Int := match b.chs[i]? with | some x => rep l x.to x.fr | none => l
end Go.Nm
namespace Go.Proofs.YtijidcigfdblaaaGreatDoor
open Go.RowKit Go.Nm

theorem ret_b {a b : Bool} (h : a = b) : Ending.returned (.bool a) = .returned (.bool b) := by rw [h]
theorem ret_i {k : IntKind} {a b : Int} (h : a = b) : Ending.returned (.int k a) = .returned (.int k b) := by rw [h]
theorem ite_neg_of {c : Prop} [Decidable c] {a b : Prop} (hn : ¬ c) (hb : b) : if c then a else b := by rw [if_neg hn]; exact hb
theorem below_new {w : World} (o : Obj) : Below w.heap.size w (w.alloc o) := (Below.refl _ _).alloc (Nat.le_refl _) _
theorem below_drewN {B : Nat} {a w : World} (h : Below B a w) (n : Nat) : Below B a (w.drewN n) := ⟨h.os, h.tape, h.output, h.size, h.block⟩
theorem add_block (a : Addr) (n : Nat) : (a.add n).block = a.block := by unfold Addr.add; split <;> rfl
theorem add_addN (a : Addr) (i j : Nat) : (a.add i).add j = a.add (i + j) := by
  unfold Addr.add
  by_cases hi : i = 0 <;> by_cases hj : j = 0 <;> simp [hi, hj, Nat.add_assoc]

structure Wb (w : World) where
  v : World
  h : Below w.heap.size w v
instance wbInhabited (w : World) : Inhabited (Wb w) := ⟨⟨w, Below.refl _ _⟩⟩
theorem wp_region_wb {P : Program} {id : Nat} {Q : Exit → Act → World → Prop} {a : Act} {w : World} {l : List Oper} (hm : P.follows .mixedOrders = true) (hB : Region.lexB .any l.toArray = true)
    (h : wpQuiet P l.toArray (fun w' => ∃ p : Wb w, w' = p.v) (fun a' => ∀ w', (∃ p : Wb w, w' = p.v) → Q .normal a' w') l a) : (Code.region id l.toArray true).wp P Q a w :=
  wp_region_quiet (C := fun w' => ∃ p : Wb w, w' = p.v) hm hB ⟨⟨w.drew, (Below.refl _ _).drew⟩, rfl⟩ (by simpa using h)
theorem Calls.wb {P : Program} {f : FuncId} {args : Array Value} {w : World} {p : Wb w} {v : Value}
    (h : Calls P f args p.v fun e w' => e = .returned v ∧ Below p.v.heap.size p.v w') : Calls P f args p.v fun e w'' => e = .returned v ∧ ∃ q : Wb w, w'' = q.v :=
  h.mono fun _ w' ⟨he, hb⟩ => ⟨he, ⟨w', p.h.trans (hb.mono p.h.size)⟩, rfl⟩
theorem Calls.wb0 {P : Program} {f : FuncId} {args : Array Value} {w : World} {p : Wb w} {v : Value}
    (h : Calls P f args p.v fun e w' => e = .returned v ∧ p.v = w') : Calls P f args p.v fun e w'' => e = .returned v ∧ ∃ q : Wb w, w'' = q.v :=
  h.mono fun _ _ ⟨he, hb⟩ => ⟨he, p, hb.symm⟩
theorem Wb.cell {w : World} {a : Addr} {u : Value} (h : w.cell? a = some u) (p : Wb w) : p.v.cell? a = some u := (p.h.cell (World.block_lt_of_cell? _ _ h)).trans h


def intsV (L : List Int) : List Value := L.map (.int .i64)
theorem intsV_len (L : List Int) : (intsV L).length = L.length := by simp [intsV]
theorem intsV_append (a b : List Int) : intsV (a ++ b) = intsV a ++ intsV b := by simp [intsV]
theorem intsV_one (L : List Int) : ∀ u ∈ intsV L, u.oneCell' = true := by
  intro u hu
  obtain ⟨x, _, rfl⟩ := List.mem_map.1 hu
  rfl
theorem infoInt : (Tryz.prog.info? 3).map (fun i => (i.zero, i.size, i.bytes)) = some (some (.int .i64 0), 1, 8) := by kernel_rfl
theorem infoI : ∃ i, Tryz.prog.info? 3 = some i ∧ i.zero = some (.int .i64 0) ∧ i.size = 1 ∧ i.bytes = 8 := by
  have h := infoInt
  cases h2 : Tryz.prog.info? 3 with
  | none => rw [h2] at h; cases h
  | some i =>
    rw [h2] at h
    simp only [Option.map_some, Option.some.injEq, Prod.mk.injEq] at h
    exact ⟨i, rfl, h.1, h.2.1, h.2.2⟩

theorem run_append_nil {P : Program} {w : World} (base : Nat) (t ty e : TypeId) (i : TypeInfo) (size c : Nat) (ht : P.underlying t = some (.slice e)) (hi : P.info? e = some i)
    (v : Value) (n : Nat) (xs : List Value) (hown : w.ownsRow base e size v n xs) :
    (Builtin.append_ #[t, t] ty #[v, .slice none 0 c]).run P w = .ok v w := by
  rcases hown.2 with ⟨rfl, rfl⟩ | ⟨g, cap, cur, rfl, _, _, hnc, _⟩
  · simp [Builtin.append_, run_underlying ht, Go.sizeOf, typeInfo, hi, Builtin.lenOf, Builtin.firstCells]
  · simp [Builtin.append_, run_underlying ht, Go.sizeOf, typeInfo, hi, Builtin.lenOf, Builtin.firstCells, hnc, storeCells]
theorem wpList_append_nil {P : Program} {w : World} {ops : Array Oper} {rest : List Oper} {o : Oper} {a : Act} {Q : Exit → Act → World → Prop} (hgd : o.guard = none) (s x : Operand) (t : TypeId)
    (ho : o.op = .call { callee := .builtin .append, args := #[s, x], argTypes := #[t, t] })
    (base : Nat) (e : TypeId) (i : TypeInfo) (size c : Nat) (ht : P.underlying t = some (.slice e)) (hi : P.info? e = some i)
    (v : Value) (n : Nat) (xs : List Value) (hs : a.eval s = v) (hown : w.ownsRow base e size v n xs) (hx : a.eval x = .slice none 0 c)
    (h : wpList P ops Q rest (a.put o.dst v) w) : wpList P ops Q (o :: rest) a w := by
  refine wpList_plain hgd fun K hK => ?_
  have hrun := run_append_nil (P := P) (w := w) base t o.type e i size c ht hi v n xs hown
  unfold Oper.wp
  simp [execOp, ho, resolve, invoke, builtin, hs, hx, hrun, Result.andThen]
  exact hK _ _ h

/-- from the address on lie the numbers L, in memory below block B -/
def InA (w : World) (B : Nat) (A : Option Addr) (L : List Int) : Prop :=
  ∀ (i : Nat) (x : Int), L[i]? = some x → ∃ ad, A = some ad ∧ ad.block < B ∧ w.cell? (ad.add i) = some (.int .i64 x)
/-- the slice value holds the numbers L -/
def InSl (w : World) (B : Nat) (v : Value) (L : List Int) : Prop := ∃ A c, v = .slice A L.length c ∧ L.length ≤ c ∧ c ≤ maxLen ∧ InA w B A L
section
variable {w w' : World} {B B' : Nat} {A : Option Addr} {L : List Int} {v : Value}
theorem InA.keep (h : InA w B A L) (hk : ∀ p : Addr, p.block < B → w'.cell? p = w.cell? p) : InA w' B A L := by
  intro i x hx
  obtain ⟨ad, ha, hb, h1⟩ := h i x hx
  exact ⟨ad, ha, hb, (hk _ (by rw [add_block]; exact hb)).trans h1⟩
theorem InA.below (h : InA w B A L) (hb : Below B w w') : InA w' B A L := h.keep fun _ hp => hb.cell hp
theorem InA.mono (h : InA w B A L) (hB : B ≤ B') : InA w B' A L := fun i x hx => by
  obtain ⟨ad, ha, hb, h1⟩ := h i x hx
  exact ⟨ad, ha, by omega, h1⟩
theorem InA.nil (w : World) (B : Nat) (A : Option Addr) : InA w B A [] := fun i x h => by simp at h
theorem InSl.below (h : InSl w B v L) (hb : Below B w w') : InSl w' B v L := by
  obtain ⟨A, c, e, h1, h2, h⟩ := h; exact ⟨A, c, e, h1, h2, h.below hb⟩
theorem InSl.mono (h : InSl w B v L) (hB : B ≤ B') : InSl w B' v L := by
  obtain ⟨A, c, e, h1, h2, h⟩ := h; exact ⟨A, c, e, h1, h2, h.mono hB⟩
theorem InSl.step (h : InSl w w.heap.size v L) (hb : Below w.heap.size w w') : InSl w' w'.heap.size v L := (h.below hb).mono hb.size
theorem InSl.form (h : InSl w B v L) : ∃ A c, v = .slice A L.length c ∧ L.length ≤ c ∧ c ≤ maxLen := by
  obtain ⟨A, c, e, h1, h2, _⟩ := h; exact ⟨A, c, e, h1, h2⟩
theorem InSl.nil (w : World) (B : Nat) : InSl w B (.slice none 0 0) [] := ⟨none, 0, rfl, Nat.le_refl _, by unfold maxLen; omega, InA.nil _ _ _⟩
/-- the element that a round reads -/
theorem InA.at_ (h : InA w B A L) {n i : Nat} (hn : L.length = n) (hi : i < n) : ∃ x ad, L[i]? = some x ∧ A = some ad ∧ ad.block < B ∧ w.cell? (ad.add i) = some (.int .i64 x) := by
  have hl : i < L.length := by omega
  obtain ⟨ad, h'⟩ := h i L[i] (List.getElem?_eq_getElem hl)
  exact ⟨L[i], ad, List.getElem?_eq_getElem hl, h'⟩
theorem InA.first {x : Int} (h : InA w B A (x :: L)) : ∃ ad, A = some ad ∧ ad.block < B ∧ w.cell? ad = some (.int .i64 x) := by
  obtain ⟨ad, ha, hb, h1⟩ := h 0 x rfl
  exact ⟨ad, ha, hb, by simpa [Addr.add] using h1⟩
theorem InA.drop {ad : Addr} (h : InA w B (some ad) L) (m : Nat) : InA w B (some (ad.add m)) (L.drop m) := fun i x hx => by
  rw [List.getElem?_drop] at hx
  obtain ⟨ad', e, hb, h1⟩ := h (m + i) x hx
  injection e with e
  subst e
  exact ⟨_, rfl, by rw [add_block]; exact hb, by rw [add_addN]; exact h1⟩
theorem InA.take (h : InA w B A L) (m : Nat) : InA w B A (L.take m) := fun i x hx => by
  refine h i x ?_
  rw [List.getElem?_take] at hx
  split at hx
  · exact hx
  · cases hx
theorem InA.cells {ad : Addr} (h : InA w B (some ad) L) : ∀ j u, (intsV L)[j]? = some u → w.cell? (ad.add j) = some u := fun j u hu => by
  unfold intsV at hu
  rw [List.getElem?_map] at hu
  cases hx : L[j]? with
  | none => rw [hx] at hu; cases hu
  | some x =>
    rw [hx] at hu
    simp only [Option.map_some, Option.some.injEq] at hu
    obtain ⟨ad', e, _, h1⟩ := h j x hx
    injection e with e
    subst e
    rw [← hu]; exact h1
theorem InA.none_nil (h : InA w B none L) : L = [] := by
  cases L with
  | nil => rfl
  | cons x L => obtain ⟨ad, e, _⟩ := h 0 x rfl; cases e
end
theorem grown_of_below {W W' : World} (h : Below W.heap.size W W') (row : Option Nat) : W.grownBy W' row := ⟨h.os, h.tape, h.output, h.size, fun i hi _ => h.block i hi⟩
theorem own_step {w w' : World} {base n z : Nat} {t : TypeId} {v : Value} {xs : List Value} (h : w.ownsRow base t z v n xs) (hb : Below w.heap.size w w') : w'.ownsRow base t z v n xs :=
  h.kept (grown_of_below hb none) (by rcases Classical.em (v.ownBlock = none) with h | h; exact .inl h; exact .inr h)
/-- a row of numbers of the call's own -/
structure OwN (W : World) (v : Value) (L : List Int) (X : World) : Prop where
  bel : Below W.heap.size W X
  own : X.ownsRow W.heap.size 3 1 v L.length (intsV L)
theorem OwN.start (W : World) : OwN W (.slice none 0 0) [] W := ⟨Below.refl _ _, World.ownsRow_nil _ _ _ _⟩
theorem OwN.step {W X Y : World} {v : Value} {L : List Int} (h : OwN W v L X) (hb : Below X.heap.size X Y) : OwN W v L Y := ⟨h.bel.trans (hb.mono h.bel.size), own_step h.own hb⟩
theorem OwN.grown {W X Y Z : World} {v v' : Value} {L M : List Int} (h : OwN W v L X) (hb : Below X.heap.size X Y) (hg : Y.grownBy Z v.ownBlock) (ho : Z.ownsRow W.heap.size 3 1 v' (L.length + M.length) (intsV L ++ intsV M)) : OwN W v' (L ++ M) Z :=
  ⟨(h.step hb).bel.grown hg (h.step hb).bel.size (fun r e => ((h.step hb).own.lt r e).1), by rw [List.length_append, intsV_append]; exact ho⟩
theorem OwN.bound {W X : World} {v : Value} {L : List Int} (h : OwN W v L X) : W.heap.size ≤ X.heap.size := h.bel.size
theorem OwN.sl {W X : World} {v : Value} {L : List Int} (h : OwN W v L X) : InSl X X.heap.size v L := by
  rcases h.own.2 with ⟨rfl, h0⟩ | ⟨g, cap, cur, rfl, hb, hg, h1, h2, h3, h4⟩
  · have := List.length_eq_zero_iff.1 h0
    subst this
    exact InSl.nil _ _
  · refine ⟨_, _, rfl, h1, h2, fun i x hx => ⟨_, rfl, (Array.getElem?_eq_some_iff.1 hg).1, ?_⟩⟩
    exact h.own.cells (g := g) rfl i _ (by rw [intsV, List.getElem?_map, hx]; rfl)
end Go.Proofs.YtijidcigfdblaaaGreatDoor
namespace Go.Proofs.YtijidcigfdblaaaGreatDoor
open Go.RowKit Go.Nm

theorem inc_of_next : ∀ {L : List Int}, (∀ j x y, L[j]? = some x → L[j + 1]? = some y → x < y) → Inc L
  | [], _ => List.Pairwise.nil
  | [x], _ => List.pairwise_cons.2 ⟨fun y h => by simp at h, List.Pairwise.nil⟩
  | x :: y :: L, h => by
    have ih : Inc (y :: L) := inc_of_next fun j a b h1 h2 => h (j + 1) a b (by simpa using h1) (by simpa using h2)
    have hxy : x < y := h 0 x y rfl rfl
    refine List.pairwise_cons.2 ⟨fun z hz => ?_, ih⟩
    rcases List.mem_cons.1 hz with rfl | hz
    · exact hxy
    · have := ih.head z hz; omega
theorem next_of_inc {L : List Int} (h : Inc L) {j : Nat} {x y : Int} (h1 : L[j]? = some x) (h2 : L[j + 1]? = some y) : x < y := by
  obtain ⟨a1, rfl⟩ := List.getElem?_eq_some_iff.1 h1
  obtain ⟨a2, rfl⟩ := List.getElem?_eq_some_iff.1 h2
  exact (List.pairwise_iff_getElem.1 h) j (j + 1) a1 a2 (by omega)
theorem inc_le {L : List Int} (h : Inc L) {i j : Nat} {x y : Int} (hx : L[i]? = some x) (hy : L[j]? = some y) (hij : i ≤ j) : x ≤ y := by
  obtain ⟨a1, rfl⟩ := List.getElem?_eq_some_iff.1 hx
  obtain ⟨a2, rfl⟩ := List.getElem?_eq_some_iff.1 hy
  rcases Nat.lt_or_eq_of_le hij with h1 | h1
  · exact Int.le_of_lt ((List.pairwise_iff_getElem.1 h) i j a1 a2 h1)
  · subst h1; exact Int.le_refl _
theorem nms_iff {L : List Int} (h : Inc L) {x y : Int} {k : Nat} (hx : L[0]? = some x) (hy : L[k]? = some y) (hk : k + 1 = L.length) : Nms L ↔ 0 < x ∧ y ≤ 65535 := by
  constructor
  · intro ⟨_, hall⟩
    have h1 := hall x (List.mem_of_getElem? hx)
    have h2 := hall y (List.mem_of_getElem? hy)
    omega
  · rintro ⟨h1, h2⟩
    refine ⟨h, fun z hz => ?_⟩
    obtain ⟨i, hi, rfl⟩ := List.getElem_of_mem hz
    have hzi := List.getElem?_eq_getElem hi
    have g1 := inc_le h hx hzi (Nat.zero_le _)
    have g2 := inc_le h hzi hy (by omega)
    omega
end Go.Proofs.YtijidcigfdblaaaGreatDoor
namespace Go.Proofs.YtijidcigfdblaaaGreatDoor
open Go.RowKit Go.Nm

/-- a slice whose first element is struck -/
theorem tail_sl {w : World} {B : Nat} {ad : Addr} {x : Int} {g : List Int} {c : Nat} (h : InA w B (some ad) (x :: g)) (hc : g.length + 1 ≤ c) :
    InA w B (if c = 1 then some ad else some ⟨ad.block, ad.off + 1, none⟩) g := by
  by_cases h1 : c = 1
  · have hg : g = [] := List.length_eq_zero_iff.1 (by omega)
    subst hg
    exact InA.nil _ _ _
  · rw [if_neg h1]
    exact h.drop 1
theorem wo_next {l g : List Int} {i : Nat} {x : Int} (h : l[i]? = some x) : wo (l.drop i) g = (if (g.dropWhile (fun y => decide (y < x))).head? = some x then wo (l.drop (i + 1)) (g.dropWhile (fun y => decide (y < x))) else x :: wo (l.drop (i + 1)) (g.dropWhile (fun y => decide (y < x)))) := by
  obtain ⟨hi, rfl⟩ := List.getElem?_eq_some_iff.1 h
  rw [List.drop_eq_getElem_cons hi]
  conv => lhs; unfold wo
def lenOf : Value → Nat
  | .slice _ n _ => n
  | _ => 0
end Go.Proofs.YtijidcigfdblaaaGreatDoor
namespace Go.Proofs.YtijidcigfdblaaaGreatDoor
open Go.RowKit Go.Nm

theorem mg_next {l g : List Int} {i : Nat} {x : Int} (h : l[i]? = some x) : mg (l.drop i) g = g.takeWhile (fun y => decide (y < x)) ++ x :: mg (l.drop (i + 1)) (g.dropWhile (fun y => decide (y < x))) := by
  obtain ⟨hi, rfl⟩ := List.getElem?_eq_some_iff.1 h
  rw [List.drop_eq_getElem_cons hi]
  conv => lhs; unfold mg
/-- what is left of the second list's lower names, and all behind -/
def mgr (x : Int) (l g : List Int) : List Int := g.takeWhile (fun y => decide (y < x)) ++ x :: mg l (g.dropWhile (fun y => decide (y < x)))
theorem mgr_lt {x y : Int} {l g : List Int} (h : y < x) : mgr x l (y :: g) = y :: mgr x l g := by unfold mgr; simp [h]
theorem mgr_ge {x : Int} {l g : List Int} (h : ∀ y, g.head? = some y → ¬ y < x) : mgr x l g = x :: mg l g := by
  cases g with
  | nil => simp [mgr]
  | cons y g => have := h y rfl; simp [mgr, this]
theorem pre_le {pre a R : List Int} (h : pre ++ a = R) : pre.length ≤ R.length := by rw [← h, List.length_append]; omega
end Go.Proofs.YtijidcigfdblaaaGreatDoor
namespace Go.Proofs.YtijidcigfdblaaaGreatDoor
open Go.RowKit Go.Nm

set_option maxHeartbeats 1000000 in
theorem isNaN1_any (x : Int) (w : World) : Calls Tryz.prog 194 #[.int .i64 x] w fun e w' => e = .returned (.bool false) ∧ w = w' := by
  go_enter Tryz.func194, Tryz.ntmps194
  go_wp2_with fail
  go_ret
  exact ⟨ret_b (by simp), rfl⟩
set_option maxHeartbeats 1000000 in
theorem isNaN2_any (x : Int) (w : World) : Calls Tryz.prog 157 #[.int .i64 x] w fun e w' => e = .returned (.bool false) ∧ w = w' := by
  go_enter Tryz.func157, Tryz.ntmps157
  go_wp2_with fail
  go_ret
  exact ⟨ret_b (by simp), rfl⟩
set_option maxHeartbeats 1000000 in
theorem less_any (x y : Int) (w : World) : Calls Tryz.prog 156 #[.int .i64 x, .int .i64 y] w fun e w' => e = .returned (.bool (decide (x < y))) ∧ w = w' := by
  have HN := Lib.hid (fun w => isNaN1_any x w)
  go_enter Tryz.func156, Tryz.ntmps156
  go_wp2_with fail
  refine (HN.out _).mono ?_
  rintro e w1 ⟨rfl, rfl⟩
  go_wp2_with fail
  go_ret
  exact ⟨ret_b (by simp), rfl⟩
set_option maxRecDepth 100000 in
set_option maxHeartbeats 4000000 in
theorem search_any (u : Value) (L : List Int) (x : Int) (w : World) (hu : InSl w w.heap.size u L) (hs : Inc L) (hn : L.length ≤ 1000000) :
    Calls Tryz.prog 103 #[u, .int .i64 x] w fun e w' => (∃ p : Int, e = .returned (.tuple #[.int .i64 p, .bool (decide (x ∈ L))])) ∧ w = w' := by
  obtain ⟨A, c, rfl, hc, hcm, hA⟩ := hu
  have HA := Lib.hid hA
  have HS := Lib.hid hs
  clear hA hs hc hcm
  generalize hnl : L.length = n at *
  have HL := Lib.hid hnl
  clear hnl
  obtain ⟨r, hr⟩ : ∃ r, decide (x ∈ L) = r := ⟨_, rfl⟩
  rw [hr]
  have HR := Lib.hid hr
  clear hr
  go_enter Tryz.func103, Tryz.ntmps103
  go_wp2_with fail
  go_loop [7, 8] (fun a b => ∃ i j : Nat, a = .int .i64 (i : Int) ∧ b = .int .i64 (j : Int) ∧ i ≤ j ∧ j ≤ n ∧ (∀ k y, k < i → L[k]? = some y → y < x) ∧ (∀ k y, j ≤ k → L[k]? = some y → x ≤ y)) (fun a b => (intOf b - intOf a).toNat)
  case atStart => exact ⟨0, n, rfl, rfl, by omega, by omega, fun k y h => absurd h (by omega), fun k y h e => by have := (List.getElem?_eq_some_iff.1 e).1; have := HL.out; omega⟩
  case round =>
    obtain ⟨i, j, rfl, rfl, hij, hjn, hlo, hhi⟩ := hrel
    have HQ := Lib.hid (And.intro hlo hhi)
    clear hlo hhi
    by_cases hlt : i < j
    · obtain ⟨h, hh⟩ : ∃ h, (i + j) / 2 = h := ⟨_, rfl⟩
      have hh1 : i ≤ h := by omega
      have hh2 : h < j := by omega
      have hw : IntKind.i64.wrap ((i : Int) + (j : Int)) = ((i + j : Nat) : Int) := by rw [IntWalk.i64_in _ (by omega)]; omega
      obtain ⟨y, ad, hy, rfl, hb, hcy⟩ := HA.out.at_ (i := h) HL.out (by omega)
      have HY := Lib.hid hy
      have HLs := Lib.hid (fun w => less_any y x w)
      clear hy
      by_cases hyx : y < x
      · rw [decide_eq_true hyx] at HLs
        go_wp2_with fail
        refine (HLs.out _).mono ?_
        rintro e w1 ⟨rfl, rfl⟩
        go_wp2_with fail
        have HN := Lib.hid (show ∀ k z, k < h + 1 → L[k]? = some z → z < x from fun k z hk hz => by
          have := inc_le HS.out hz HY.out (by omega); omega)
        go_round
        case rel => exact ⟨h + 1, j, by go_num, rfl, by omega, hjn, HN.out, HQ.out.2⟩
        case measure => simp [intOf]; omega
      · rw [decide_eq_false hyx] at HLs
        go_wp2_with fail
        refine (HLs.out _).mono ?_
        rintro e w1 ⟨rfl, rfl⟩
        go_wp2_with fail
        have HN := Lib.hid (show ∀ k z, h ≤ k → L[k]? = some z → x ≤ z from fun k z hk hz => by
          have := inc_le HS.out HY.out hz hk; omega)
        go_round
        case rel => exact ⟨i, h, rfl, by go_num, by omega, by omega, HQ.out.1, HN.out⟩
        case measure => simp [intOf]; omega
    · obtain rfl : i = j := by omega
      by_cases hin : i < n
      · obtain ⟨y, ad, hy, rfl, hb, hcy⟩ := HA.out.at_ (i := i) HL.out hin
        by_cases hyx : y = x
        · have HF := Lib.hid (show r = true from by rw [← HR.out, decide_eq_true_eq, ← hyx]; exact List.mem_of_getElem? hy)
          clear hy
          subst hyx
          go_wp2_with fail
          go_ret2
          exact ⟨⟨_, by rw [HF.out]; rfl⟩, rfl⟩
        · have HF := Lib.hid (show r = false from by
            rw [← HR.out, decide_eq_false_iff_not]
            intro hm
            obtain ⟨k, hk, e⟩ := List.getElem_of_mem hm
            have hkx : L[k]? = some x := by rw [← e]; exact List.getElem?_eq_getElem hk
            rcases Nat.lt_or_ge k i with h | h
            · have := HQ.out.1 k x h hkx; omega
            · have h1 := HQ.out.2 i y (Nat.le_refl _) hy
              have h2 := inc_le HS.out hy hkx h
              omega)
          have HN := Lib.hid (fun (z : Int) (w : World) => isNaN2_any z w)
          have hb2 : (y == x) = false := by simpa using hyx
          clear hy
          go_wp2_with fail
          refine (HN.out _ _).mono ?_
          rintro e w1 ⟨rfl, rfl⟩
          go_wp2_with fail
          go_ret2
          exact ⟨⟨_, by rw [HF.out]; rfl⟩, rfl⟩
      · have HF := Lib.hid (show r = false from by
          rw [← HR.out, decide_eq_false_iff_not]
          intro hm
          obtain ⟨k, hk, e⟩ := List.getElem_of_mem hm
          have hkx : L[k]? = some x := by rw [← e]; exact List.getElem?_eq_getElem hk
          have := HQ.out.1 k x (by have := HL.out; omega) hkx; omega)
        go_wp2_with fail
        go_ret2
        exact ⟨⟨_, by rw [HF.out]; rfl⟩, rfl⟩
end Go.Proofs.YtijidcigfdblaaaGreatDoor
namespace Go.Proofs.YtijidcigfdblaaaGreatDoor
open Go.RowKit Go.Nm

/-- from the address on lie the changes, in memory below block B -/
def ChA (w : World) (B : Nat) (A : Option Addr) (L : List Ch) : Prop :=
  ∀ (i : Nat) (x : Ch), L[i]? = some x → ∃ ad vf vt, A = some ad ∧ ad.block < B ∧ w.cell? (ad.add (i * 3)) = some (.int .i64 x.yr) ∧
    w.cell? ⟨(ad.add (i * 3)).block, (ad.add (i * 3)).off + 1, none⟩ = some vf ∧ w.cell? ⟨(ad.add (i * 3)).block, (ad.add (i * 3)).off + 2, none⟩ = some vt ∧ InSl w B vf x.fr ∧ InSl w B vt x.to
def ChSl (w : World) (B : Nat) (v : Value) (L : List Ch) : Prop := ∃ A c, v = .slice A L.length c ∧ ChA w B A L
/-- the value is a book -/
def BkV (w : World) (v : Value) (b : Bk) (v2 : Value) : Prop := ∃ v1, v = .agg #[v1, v2] ∧ InSl w w.heap.size v1 b.first ∧ ChSl w w.heap.size v2 b.chs
/-- a book is small -/
def Sm (b : Bk) : Prop := b.first.length ≤ 1000 ∧ b.chs.length ≤ 1000 ∧ ∀ x ∈ b.chs, x.fr.length ≤ 1000 ∧ x.to.length ≤ 1000
/-- values are slices of these lists -/
def VsA (w : World) (B : Nat) (vals : List Value) (LL : List (List Int)) : Prop := vals.length = LL.length ∧ ∀ (i : Nat) (v : Value) (L : List Int), vals[i]? = some v → LL[i]? = some L → InSl w B v L
def VsSl (w : World) (B : Nat) (v : Value) (LL : List (List Int)) : Prop :=
  ∃ A c vals, v = .slice A LL.length c ∧ VsA w B vals LL ∧ ∀ (i : Nat) (u : Value), vals[i]? = some u → ∃ ad, A = some ad ∧ ad.block < B ∧ w.cell? (ad.add i) = some u
def HsV (w : World) (v : Value) (b : Bk) (vc : Value) : Prop := ∃ vs, v = .agg #[vs, vc] ∧ VsSl w w.heap.size vs (vers b) ∧ ChSl w w.heap.size vc b.chs
section
variable {w w' : World} {B B' : Nat} {A : Option Addr} {L : List Ch} {v : Value} {LL : List (List Int)} {vals : List Value} {b : Bk}
theorem ChA.below (h : ChA w B A L) (hb : Below B w w') : ChA w' B A L := by
  intro i x hx
  obtain ⟨ad, vf, vt, ha, hB, h1, h2, h3, h4, h5⟩ := h i x hx
  exact ⟨ad, vf, vt, ha, hB, (hb.cell (by rw [add_block]; exact hB)).trans h1, (hb.cell (p := ⟨(ad.add (i * 3)).block, _, none⟩) (by show (ad.add (i * 3)).block < B; rw [add_block]; exact hB)).trans h2, (hb.cell (p := ⟨(ad.add (i * 3)).block, _, none⟩) (by show (ad.add (i * 3)).block < B; rw [add_block]; exact hB)).trans h3, h4.below hb, h5.below hb⟩
theorem ChA.mono (h : ChA w B A L) (hB : B ≤ B') : ChA w B' A L := by
  intro i x hx
  obtain ⟨ad, vf, vt, ha, hb, h1, h2, h3, h4, h5⟩ := h i x hx
  exact ⟨ad, vf, vt, ha, by omega, h1, h2, h3, h4.mono hB, h5.mono hB⟩
theorem ChSl.below (h : ChSl w B v L) (hb : Below B w w') : ChSl w' B v L := by
  obtain ⟨A, c, e, h⟩ := h; exact ⟨A, c, e, h.below hb⟩
theorem ChSl.mono (h : ChSl w B v L) (hB : B ≤ B') : ChSl w B' v L := by
  obtain ⟨A, c, e, h⟩ := h; exact ⟨A, c, e, h.mono hB⟩
theorem ChSl.step (h : ChSl w w.heap.size v L) (hb : Below w.heap.size w w') : ChSl w' w'.heap.size v L := (h.below hb).mono hb.size
theorem BkV.step {vc : Value} (h : BkV w v b vc) (hb : Below w.heap.size w w') : BkV w' v b vc := by
  obtain ⟨v1, e, h1, h2⟩ := h; exact ⟨v1, e, h1.step hb, h2.step hb⟩
theorem VsA.below (h : VsA w B vals LL) (hb : Below B w w') : VsA w' B vals LL := ⟨h.1, fun i v L h1 h2 => (h.2 i v L h1 h2).below hb⟩
theorem VsA.mono (h : VsA w B vals LL) (hB : B ≤ B') : VsA w B' vals LL := ⟨h.1, fun i v L h1 h2 => (h.2 i v L h1 h2).mono hB⟩
theorem VsSl.below (h : VsSl w B v LL) (hb : Below B w w') : VsSl w' B v LL := by
  obtain ⟨A, c, vals, e, h1, h2⟩ := h
  exact ⟨A, c, vals, e, h1.below hb, fun i u hu => by
    obtain ⟨ad, ha, hB, hc⟩ := h2 i u hu
    exact ⟨ad, ha, hB, (hb.cell (by rw [add_block]; exact hB)).trans hc⟩⟩
theorem VsSl.mono (h : VsSl w B v LL) (hB : B ≤ B') : VsSl w B' v LL := by
  obtain ⟨A, c, vals, e, h1, h2⟩ := h
  exact ⟨A, c, vals, e, h1.mono hB, fun i u hu => by
    obtain ⟨ad, ha, hb, hc⟩ := h2 i u hu
    exact ⟨ad, ha, by omega, hc⟩⟩
theorem HsV.step {vc : Value} (h : HsV w v b vc) (hb : Below w.heap.size w w') : HsV w' v b vc := by
  obtain ⟨vs, e, h1, h2⟩ := h; exact ⟨vs, e, (h1.below hb).mono hb.size, h2.step hb⟩
/-- the version that is read -/
theorem VsSl.at_ {n c : Nat} (h : VsSl w B (.slice A n c) LL) {i : Nat} (hi : i < n) : ∃ ad u L, A = some ad ∧ ad.block < B ∧ LL[i]? = some L ∧ w.cell? (ad.add i) = some u ∧ InSl w B u L := by
  obtain ⟨A', c', vals, e, h1, h2⟩ := h
  injection e with e1 e2 e3
  subst e1; subst e2
  have hv : i < vals.length := by rw [h1.1]; exact hi
  obtain ⟨ad, ha, hb, hc⟩ := h2 i _ (List.getElem?_eq_getElem hv)
  exact ⟨ad, _, LL[i], ha, hb, List.getElem?_eq_getElem hi, hc, h1.2 i _ _ (List.getElem?_eq_getElem hv) (List.getElem?_eq_getElem hi)⟩
theorem VsSl.form (h : VsSl w B v LL) : ∃ A c, v = .slice A LL.length c := by
  obtain ⟨A, c, vals, e, _⟩ := h; exact ⟨A, c, e⟩
theorem ChSl.form (h : ChSl w B v L) : ∃ A c, v = .slice A L.length c := by
  obtain ⟨A, c, e, _⟩ := h; exact ⟨A, c, e⟩
end
end Go.Proofs.YtijidcigfdblaaaGreatDoor
namespace Go.Proofs.YtijidcigfdblaaaGreatDoor
open Go.ChangeShapes Go.WideShapes Go.RowKit Go.Nm Go.Deep Go.Joins

theorem ownKnobNone : ownKnob Tryz.prog.godebug = none := by kernel_rfl
theorem laidOut : laidOutB Tryz.prog = true := by kernel_rfl
/-- a list out of its members -/
theorem list_of {α : Type} {P : Nat → α → Prop} : ∀ n, (∀ i, i < n → ∃ x, P i x) → ∃ L : List α, L.length = n ∧ ∀ i x, L[i]? = some x → P i x
  | 0, _ => ⟨[], rfl, fun i x h => by simp at h⟩
  | n + 1, h => by
    obtain ⟨L, hl, hL⟩ := list_of n fun i hi => h i (by omega)
    obtain ⟨x, hx⟩ := h n (by omega)
    refine ⟨L ++ [x], by simp [hl], fun i y hy => ?_⟩
    rcases Nat.lt_or_ge i L.length with hi | hi
    · rw [List.getElem?_append_left hi] at hy; exact hL i y hy
    · rw [List.getElem?_append_right hi] at hy
      have h0 : i - L.length = 0 := by
        have := (List.getElem?_eq_some_iff.1 hy).1
        simp at this; omega
      rw [h0] at hy
      simp at hy
      subst hy
      rw [show i = n by omega]; exact hx
section
variable {H : Type} {enc : TypeId × Value → H} {W : World}
set_option maxRecDepth 100000 in
theorem open_list {v : Value} {n : Nat} {x : DataW H × List MemPlace} (h : DataW.trod enc Tryz.prog W 0 (fun _ => true) true n 30 [v] = some x) : ∃ L, InSl W W.heap.size v L := by
  rcases open_ints Tryz.underlying30 Tryz.underlying3 (by kernel_rfl) h with ⟨e, _⟩ | ⟨a, len, cap, zs, e, _, hlc, hcm, hzl, _, hc, _⟩
  · simp only [List.cons.injEq, and_true] at e
    subst e
    exact ⟨[], InSl.nil _ _⟩
  · simp only [List.cons.injEq, and_true] at e
    subst e
    rw [if_pos rfl] at hzl
    have hl : (zs.take len).length = len := by rw [List.length_take]; omega
    refine ⟨zs.take len, _, cap, by rw [hl], by omega, hcm, fun i y hy => ?_⟩
    rw [List.getElem?_take] at hy
    split at hy
    · have hi := (List.getElem?_eq_some_iff.1 hy).1
      have h1 := hc i hi
      have e : zs.getD i 0 = y := by rw [List.getD_eq_getElem?_getD, hy]; rfl
      rw [e] at h1
      have hb := World.block_lt_of_cell? _ _ h1
      rw [add_block] at hb
      exact ⟨a, rfl, hb, h1⟩
    · cases hy
end
/-- the last step: the law has answered true, and the arguments read as they read -/
theorem law_post {H : Type} {enc : TypeId × Value → H} {P : Program} {f : Func} {s : ChangeSpec} {W W' : World} {args : Array Value} {v : Value} {ds : List (DataW H)} {before : List MemPlace} (hW : DataW.Whole enc P f.params.toList s.vars false W args.toList ds [] before)
    (hres : DataW.TrodAll enc P W' W.heap.size (fun _ => false) false f.resultTypes.toList (v.resultList f.resultTypes.size) (s.fn H (ds ++ [])).results [])
    (hargs : DataW.TrodAll enc P W' 0 (fun b => decide (b < W.heap.size)) true f.params.toList args.toList (s.fn H (ds ++ [])).args before)
    (hvars : DataW.TrodVars enc P W' (fun b => decide (b < W.heap.size)) s.vars (s.fn H (ds ++ [])).vars []) (hb : Below W.heap.size W W') : s.post enc P f false true false false W args v W' :=
  ⟨ds, [], before, [], before, [], hW, hres, hargs, hvars, World.keptBut_mono (fun _ hp => ⟨hp, .inr (.inl hp)⟩) (hb.frame (· ∈ before)), fun h => by cases h⟩
end Go.Proofs.YtijidcigfdblaaaGreatDoor
namespace Go.Proofs.YtijidcigfdblaaaGreatDoor
open Go.RowKit Go.Nm

theorem setCell_grown (W : World) (b : Nat) (v : Value) : W.grownBy (W.setCell ⟨b, 0, none⟩ v) (some b) :=
  ⟨rfl, rfl, rfl, Nat.le_of_eq (by simp), fun k _ hne => heap_setCell_other W ⟨b, 0, none⟩ k v fun h => hne (by rw [h])⟩
theorem cells_two {w : World} {g : Nat} {a b : Value} {t : TypeId} (h : w.heap[g]? = some (.cells #[a, b] t)) : w.cell? ⟨g, 0, none⟩ = some a ∧ w.cell? ⟨g, 1, none⟩ = some b := by
  constructor <;> simp [World.cell?, h]
theorem cells_three {w : World} {g : Nat} {a b c : Value} {t : TypeId} (h : w.heap[g]? = some (.cells #[a, b, c] t)) : w.cell? ⟨g, 0, none⟩ = some a ∧ w.cell? ⟨g, 1, none⟩ = some b ∧ w.cell? ⟨g, 2, none⟩ = some c := by
  refine ⟨?_, ?_, ?_⟩ <;> simp [World.cell?, h]
theorem bcellN {W w1 : World} (hb : Below W.heap.size W w1) : (∀ b o, b < W.heap.size → w1.cell? ⟨b, o, none⟩ = W.cell? ⟨b, o, none⟩) ∧ (∀ b o, b < W.heap.size → w1.frozen? ⟨b, o, none⟩ = W.frozen? ⟨b, o, none⟩) :=
  ⟨fun b o h => hb.cell (p := ⟨b, o, none⟩) h, fun b o h => hb.frozen (p := ⟨b, o, none⟩) h⟩
theorem own_slice {ad : Addr} {n c : Nat} : (Value.slice (some ad) n c).ownBlock = some ad.block := rfl
theorem InSl.keepOwn {w w' : World} {B : Nat} {v : Value} {L : List Int} (h : InSl w B v L) (hk : ∀ p : Addr, v.ownBlock = some p.block → w'.cell? p = w.cell? p) : InSl w' B v L := by
  obtain ⟨A, c, rfl, h1, h2, h3⟩ := h
  refine ⟨A, c, rfl, h1, h2, fun i x hx => ?_⟩
  obtain ⟨ad, rfl, hb, hc⟩ := h3 i x hx
  exact ⟨ad, rfl, hb, (hk _ (by rw [own_slice, add_block])).trans hc⟩
theorem InSl.ownLt {w : World} {B : Nat} {v : Value} {L : List Int} (h : InSl w B v L) (hn : L ≠ []) {g : Nat} (e : v.ownBlock = some g) : g < B := by
  obtain ⟨A, c, rfl, h1, h2, h3⟩ := h
  cases L with
  | nil => exact absurd rfl hn
  | cons x L =>
    obtain ⟨ad, rfl, hb, _⟩ := h3 0 x rfl
    rw [own_slice] at e
    injection e with e
    omega
theorem frozen_cells {w : World} {g : Nat} {cs : Array Value} {t : TypeId} (h : w.heap[g]? = some (.cells cs t)) (o : Nat) : w.frozen? ⟨g, o, none⟩ = false := by
  simp [World.frozen?, h]
section
variable {w : World} {v1 v2 : Value} {LL : List (List Int)} {vals : List Value} {vs : Value} {wr X : World}
end
theorem own_form {w : World} {base : Nat} {t : TypeId} {z : Nat} {v : Value} {n : Nat} {xs : List Value} (h : w.ownsRow base t z v n xs) (hn : 0 < n) : ∃ g cap, v = .slice (some ⟨g, 0, none⟩) n cap := by
  rcases h.2 with ⟨_, h0⟩ | ⟨g, cap, cur, ev, _⟩
  · omega
  · exact ⟨g, cap, ev⟩
theorem rep_ne {l fr to : List Int} (h1 : l ≠ []) (h2 : to ≠ []) : rep l fr to ≠ [] := by
  unfold rep
  split
  · exact h1
  · intro e
    have := congrArg List.length e
    rw [mg_len, List.length_nil] at this
    have h3 := List.length_pos_iff.2 h2
    omega
theorem ChSl.at_ {w : World} {B n c : Nat} {A : Option Addr} {L : List Ch} (h : ChSl w B (.slice A n c) L) {i : Nat} (hi : i < n) : ∃ x ad vf vt, L[i]? = some x ∧ A = some ad ∧ ad.block < B ∧ w.cell? (ad.add (i * 3)) = some (.int .i64 x.yr) ∧
    w.cell? ⟨(ad.add (i * 3)).block, (ad.add (i * 3)).off + 1, none⟩ = some vf ∧ w.cell? ⟨(ad.add (i * 3)).block, (ad.add (i * 3)).off + 2, none⟩ = some vt ∧ InSl w B vf x.fr ∧ InSl w B vt x.to := by
  obtain ⟨A', c', e, h1⟩ := h
  injection e with e1 e2 e3
  subst e1; subst e2
  obtain ⟨ad, vf, vt, h2⟩ := h1 i L[i] (List.getElem?_eq_getElem hi)
  exact ⟨L[i], ad, vf, vt, List.getElem?_eq_getElem hi, h2⟩
theorem versF_bad {L : List Ch} {k : Nat} {x : Ch} {a : List Int} {y : Int} (hx : L[k]? = some x) (h : ¬ okCh a y x) : versF a y (L.drop k) = [a] := by
  obtain ⟨hk, rfl⟩ := List.getElem?_eq_some_iff.1 hx
  rw [List.drop_eq_getElem_cons hk]
  unfold versF
  rw [if_neg h]
theorem versF_good {L : List Ch} {k : Nat} {x : Ch} {a : List Int} {y : Int} (hx : L[k]? = some x) (h : okCh a y x) : versF a y (L.drop k) = a :: versF (rep a x.fr x.to) x.yr (L.drop (k + 1)) := by
  obtain ⟨hk, rfl⟩ := List.getElem?_eq_some_iff.1 hx
  rw [List.drop_eq_getElem_cons hk]
  conv => lhs; unfold versF
  rw [if_pos h]
end Go.Proofs.YtijidcigfdblaaaGreatDoor
namespace Go.Proofs.YtijidcigfdblaaaGreatDoor
open Go.RowKit Go.Nm

theorem versF_pos : ∀ (l : List Ch) (a : List Int) (y : Int), 1 ≤ (versF a y l).length
  | [], a, y => by simp [versF]
  | x :: l, a, y => by
    unfold versF
    split <;> simp
theorem vers_len (b : Bk) : (vers b).length ≤ b.chs.length + 1 := by
  unfold vers
  split
  · exact versF_len _ _ _
  · simp
theorem val_len {b : Bk} (h : Val b) : (vers b).length = b.chs.length + 1 := by have := vers_len b; have := h.2; omega
theorem HsV.form {w : World} {v vc : Value} {b : Bk} (h : HsV w v b vc) : ∃ A c, v = .agg #[.slice A (vers b).length c, vc] := by
  obtain ⟨vs, rfl, h1, h2⟩ := h
  obtain ⟨A, c, rfl⟩ := h1.form
  exact ⟨A, c, rfl⟩
theorem HsV.formC {w : World} {v vc : Value} {b : Bk} (h : HsV w v b vc) : ∃ A c, vc = .slice A b.chs.length c := by
  obtain ⟨vs, rfl, h1, h2⟩ := h
  exact h2.form
theorem versF_ne : ∀ (l : List Ch) (a : List Int) (y : Int), a ≠ [] → ∀ L ∈ versF a y l, L ≠ []
  | [], a, y, h, L, hL => by simp [versF] at hL; subst hL; exact h
  | x :: l, a, y, h, L, hL => by
    unfold versF at hL
    split at hL
    · rename_i hx
      rcases List.mem_cons.1 hL with rfl | hL
      · exact h
      · exact versF_ne l _ _ (rep_ne h fun e => by have := hx.2.2.2.1.1; rw [e] at this; simp at this) L hL
    · simp at hL; subst hL; exact h
theorem vers_ne {b : Bk} : ∀ L ∈ vers b, L ≠ [] := fun L hL => by
  unfold vers at hL
  split at hL
  · rename_i h; exact versF_ne _ _ _ (fun e => by have := h.1; rw [e] at this; simp at this) L hL
  · simp at hL
/-- a store into a cell that holds no number keeps a slice of numbers -/
theorem InSl.store {w : World} {B : Nat} {v : Value} {L : List Int} {q : Addr} {A0 : Option Addr} {n0 c0 : Nat} (h : InSl w B v L) (hq : w.cell? q = some (.slice A0 n0 c0)) (u : Value) : InSl (w.setCell q u) B v L := by
  obtain ⟨A, c, e, h1, h2, h3⟩ := h
  refine ⟨A, c, e, h1, h2, fun i x hx => ?_⟩
  obtain ⟨ad, ea, hb, hc⟩ := h3 i x hx
  exact ⟨ad, ea, hb, by rw [World.cell?_setCell_other _ _ _ _ (fun e => by rw [← e] at hc; rw [hq] at hc; cases hc)]; exact hc⟩
theorem VsSl.store {w : World} {B : Nat} {v : Value} {LL : List (List Int)} {q : Addr} (h : VsSl w B v LL) (hne : ∀ L ∈ LL, L ≠ []) (hq : w.cell? q = some (.slice none 0 0)) (u : Value) : VsSl (w.setCell q u) B v LL := by
  obtain ⟨A, c, vals, e, h1, h2⟩ := h
  refine ⟨A, c, vals, e, ⟨h1.1, fun i v L g1 g2 => (h1.2 i v L g1 g2).store hq u⟩, fun i x hx => ?_⟩
  obtain ⟨ad, ea, hb, hc⟩ := h2 i x hx
  refine ⟨ad, ea, hb, ?_⟩
  rw [World.cell?_setCell_other _ _ _ _ (fun e => ?_)]
  · exact hc
  · rw [← e, hq] at hc
    injection hc with hc
    have hi : i < LL.length := by rw [← h1.1]; exact (List.getElem?_eq_some_iff.1 hx).1
    have hL := List.getElem?_eq_getElem hi
    obtain ⟨A', c', e', _⟩ := h1.2 i x _ hx hL
    rw [← hc] at e'
    injection e' with e1 e2 e3
    exact hne _ (List.mem_of_getElem? hL) (List.length_eq_zero_iff.1 e2.symm)
theorem two_new (w : World) (o1 o2 : Obj) : ((w.alloc o1).alloc o2).heap[w.heap.size + 1]? = some o2 := by
  rw [show w.heap.size + 1 = (w.alloc o1).heap.size from by simp]; exact World.alloc_heap_new _ _
/-- what open tells of a book and versions -/
def openE (b : Bk) (V : List Int) : Int := if Val b then (if ∀ v ∈ V, 0 ≤ v ∧ v < (vers b).length then 0 else 21) else 20
def nilH : Value := .agg #[.slice none 0 0, .slice none 0 0]
def OpR (b : Bk) (vc : Value) (er : Int) (w : World) (e : Ending) (w' : World) : Prop :=
  ∃ u, e = .returned (.tuple #[u, .int .i64 er]) ∧ (er = 0 → HsV w' u b vc) ∧ (er ≠ 0 → u = nilH) ∧ Below w.heap.size w w'
theorem OpR.bad {b : Bk} {vc : Value} {er : Int} {w w' : World} (h : er ≠ 0) (hb : Below w.heap.size w w') : OpR b vc er w (.returned (.tuple #[.agg #[.slice none 0 0, .slice none 0 0], .int .i64 er])) w' :=
  ⟨_, rfl, fun e => absurd e h, fun _ => rfl, hb⟩
theorem OpR.good {b : Bk} {vc : Value} {w w' : World} {u : Value} (h : HsV w' u b vc) (hb : Below w.heap.size w w') : OpR b vc 0 w (.returned (.tuple #[u, .int .i64 0])) w' :=
  ⟨u, rfl, fun _ => h, fun e => absurd rfl e, hb⟩
/-- a history that is stored as a result -/
theorem HsV.fin {w W : World} {g : Nat} {vs vc : Value} {b : Bk} (h : HsV W (.agg #[vs, vc]) b vc) (hb : Below w.heap.size w W) (h2 : ChSl w w.heap.size vc b.chs) (r0 : W.cell? ⟨w.heap.size + g, 0, none⟩ = some (.slice none 0 0)) (r1 : W.cell? ⟨w.heap.size + g, 1, none⟩ = some (.slice none 0 0)) :
    HsV ((W.setCell ⟨w.heap.size + g, 0, none⟩ vs).setCell ⟨w.heap.size + g, 1, none⟩ vc) (.agg #[vs, vc]) b vc ∧ Below w.heap.size w ((W.setCell ⟨w.heap.size + g, 0, none⟩ vs).setCell ⟨w.heap.size + g, 1, none⟩ vc) := by
  obtain ⟨vs', e, h1, _⟩ := h
  simp only [Value.agg.injEq, Array.mk.injEq, List.cons.injEq, and_true] at e
  subst e
  have hb2 : Below w.heap.size w ((W.setCell ⟨w.heap.size + g, 0, none⟩ vs).setCell ⟨w.heap.size + g, 1, none⟩ vc) := (hb.setCell (by simp) _).setCell (by simp) _
  refine ⟨⟨vs, rfl, ?_, h2.step hb2⟩, hb2⟩
  have hs : ((W.setCell ⟨w.heap.size + g, 0, none⟩ vs).setCell ⟨w.heap.size + g, 1, none⟩ vc).heap.size = W.heap.size := by simp
  rw [hs]
  refine (h1.store vers_ne r0 vs).store vers_ne ?_ vc
  rw [World.cell?_setCell_other _ _ _ _ (by intro e; injection e with e1 e2; omega)]
  exact r1
end Go.Proofs.YtijidcigfdblaaaGreatDoor
namespace Go.Proofs.YtijidcigfdblaaaGreatDoor
open Go

section
variable {P : Program} {ops : Array Oper} {Q : Exit → Act → World → Prop}

/-- what is left to do -/
def leftOf (l : List Bool) : Nat := l.count false

theorem leftOf_set : ∀ (l : List Bool) (i : Nat), l[i]? = some false → leftOf (l.set i true) + 1 = leftOf l
  | [], i, h => by simp at h
  | b :: l, 0, h => by simp at h; subst h; simp [leftOf]
  | b :: l, i + 1, h => by
    have ih := leftOf_set l i (by simpa using h)
    unfold leftOf at *
    simp only [List.set_cons_succ, List.count_cons]
    omega

theorem leftOf_pos {l : List Bool} {i : Nat} (h : l[i]? = some false) : 0 < leftOf l := by
  have := leftOf_set l i h; omega

/-- an edge leads back -/
def backB (ops : Array Oper) : Bool := (List.range ops.size).all fun i => ((ops[i]?).map (·.after.all fun e => !Region.binds .any e || decide (e.on < i))).getD true

theorem backB_spec (h : backB ops = true) {i : Nat} {o : Oper} (hi : ops[i]? = some o) {e : Edge} (he : e ∈ o.after) (hb : Region.binds .any e = true) : e.on < i := by
  unfold backB at h
  rw [List.all_eq_true] at h
  have h1 := h i (by rw [List.mem_range]; exact (Array.getElem?_eq_some_iff.1 hi).1)
  simp only [hi, Option.map_some, Option.getD_some, Array.all_eq_true_iff_forall_mem] at h1
  have h2 := h1 e he
  rw [hb] at h2
  simpa using h2

theorem ready_none {listed : Array Bool} (hb : backB ops = true) (hs : listed.size = ops.size) (h : Region.ready .any ops listed = []) : ∀ i, i < ops.size → listed.getD i false = true := by
  intro i
  induction i using Nat.strongRecOn with
  | _ i ih =>
    intro hi
    rcases hl : listed.getD i false with _ | _
    · exfalso
      have hm : i ∈ Region.ready .any ops listed := mem_ready.2 ⟨by
          rw [← hs] at hi
          simp [hi] at hl ⊢
          exact hl, ops[i], Array.getElem?_eq_getElem hi, fun e he hbd => ih e.on (backB_spec hb (Array.getElem?_eq_getElem hi) he hbd) (by have := backB_spec hb (Array.getElem?_eq_getElem hi) he hbd; omega)⟩
      rw [h] at hm; cases hm
    · rfl

/-- operation j waits for operation i -/
def waitsB (ops : Array Oper) (j i : Nat) : Bool := ((ops[j]?).map (·.after.any fun e => Region.binds .any e && e.on == i)).getD false
theorem waits_no {j i : Nat} {oj : Oper} (hj : ops[j]? = some oj) (h : ∀ e ∈ oj.after, Region.binds .any e = true → e.on ≠ i) : waitsB ops j i = false := by
  unfold waitsB
  rw [hj]
  simp only [Option.map_some, Option.getD_some]
  rw [← Bool.not_eq_true, Array.any_eq_true']
  rintro ⟨e, he, hb⟩
  rw [Bool.and_eq_true, beq_iff_eq] at hb
  exact h e he hb.1 hb.2

theorem wpAny_facts (G : Act → World → Prop) (F : Nat → Act → World → Prop) (hb : backB ops = true)
    (hstep : ∀ i o, ops[i]? = some o → ∀ a w, G a w → (∀ e ∈ o.after, Region.binds .any e = true → F e.on a w) → wpOp P ops Q i (fun a' w' => G a' w' ∧ F i a' w' ∧ ∀ j, j < ops.size → j ≠ i → waitsB ops j i = false → F j a w → F j a' w') a w)
    (hend : ∀ a w, G a w → (∀ j, j < ops.size → F j a w) → Q .normal a w) :
    ∀ (fuel : Nat) (listed : Array Bool) (a : Act) (w : World), listed.size = ops.size → leftOf listed.toList ≤ fuel →
      (∀ j oj, ops[j]? = some oj → listed.getD j false = true → ∀ e ∈ oj.after, Region.binds .any e = true → listed.getD e.on false = true) → G a w → (∀ j, listed.getD j false = true → F j a w) → wpAny P .any ops Q fuel listed a w := by
  intro fuel
  induction fuel with
  | zero =>
    intro listed a w hs hf _ hG hF
    have hnil : Region.ready .any ops listed = [] := by
      cases hr : Region.ready .any ops listed with
      | nil => rfl
      | cons i rs =>
        have hm : i ∈ Region.ready .any ops listed := by rw [hr]; exact List.mem_cons_self
        obtain ⟨h0, o, ho, _⟩ := mem_ready.1 hm
        have hi : i < listed.size := by rw [hs]; exact (Array.getElem?_eq_some_iff.1 ho).1
        have := leftOf_pos (l := listed.toList) (i := i) (by simp [hi] at h0 ⊢; exact h0)
        omega
    exact ⟨hnil, hend a w hG fun j hj => hF j (ready_none hb hs hnil j hj)⟩
  | succ fuel ih =>
    intro listed a w hs hf hw hG hF
    refine ⟨fun hnil => hend a w hG fun j hj => hF j (ready_none hb hs hnil j hj), fun i hm => ?_⟩
    obtain ⟨h0, o, ho, hall⟩ := mem_ready.1 hm
    have hi : i < listed.size := by rw [hs]; exact (Array.getElem?_eq_some_iff.1 ho).1
    have hi0 : listed.getD i false = false := by simp [hi] at h0 ⊢; exact h0
    refine wpOp_mono (fun a' w' h => ?_) (hstep i o ho a w hG fun e he hbd => hF _ (hall e he hbd))
    refine ih _ a' w' (by simpa using hs) ?_ (fun j oj hj hl e he hbd => ?_) h.1 fun j hj => ?_
    · have := leftOf_set listed.toList i (by simp [hi] at h0 ⊢; exact h0)
      rw [Array.toList_setIfInBounds]
      omega
    · by_cases hji : j = i
      · subst hji
        rw [ho] at hj
        cases hj
        exact getD_set_true (hall e he hbd)
      · rw [getD_set_ne false (Ne.symm hji)] at hl
        exact getD_set_true (hw j oj hj hl e he hbd)
    · by_cases hji : j = i
      · subst hji; exact h.2.1
      · rw [getD_set_ne false (Ne.symm hji)] at hj
        have hjs : j < ops.size := by
          rcases Nat.lt_or_ge j listed.size with h | h
          · omega
          · simp [Array.getElem?_eq_none h] at hj
        refine h.2.2 j hjs hji (waits_no (Array.getElem?_eq_getElem hjs) fun e he hbd heq => ?_) (hF j hj)
        have := hw j _ (Array.getElem?_eq_getElem hjs) hj e he hbd
        rw [heq, hi0] at this; cases this

/-- the law: 'G' holds all along, operation i leaves 'F i' and keeps all other facts -/
theorem wp_region_facts {id : Nat} {a : Act} {w : World} (G : Act → World → Prop) (F : Nat → Act → World → Prop) (hm : P.follows .mixedOrders = true) (hb : backB ops = true)
    (hG : G a w.drew)
    (hstep : ∀ i o, ops[i]? = some o → ∀ a w, G a w → (∀ e ∈ o.after, Region.binds .any e = true → F e.on a w) → wpOp P ops Q i (fun a' w' => G a' w' ∧ F i a' w' ∧ ∀ j, j < ops.size → j ≠ i → waitsB ops j i = false → F j a w → F j a' w') a w)
    (hend : ∀ a w, G a w → (∀ j, j < ops.size → F j a w) → Q .normal a w) : (Code.region id ops true).wp P Q a w :=
  wp_region_any hm (wpAny_facts G F hb hstep hend ops.size _ a _ (by simp) (by simp [leftOf]) (fun j oj hj hl => by
      exfalso
      rcases Nat.lt_or_ge j ops.size with h | h <;> simp [h] at hl) hG (fun j hj => by
      exfalso
      rcases Nat.lt_or_ge j ops.size with h | h <;> simp [h] at hj))
/-- an operation without a guard -/
theorem wpOp_bare {i : Nat} {o : Oper} {K : Act → World → Prop} {a : Act} {w : World} (ho : ops[i]? = some o) (hg : o.guard = none) (h : o.wp P a w K Q) : wpOp P ops Q i K a w := by
  unfold wpOp
  simp only [ho]
  rw [if_pos (by unfold Region.wanted; rw [hg])]
  exact .inl h
end
section
variable {P : Program} {ops : Array Oper} {Q : Exit → Act → World → Prop}
/-- one more operation is done -/
def andB (dn : Nat → Bool) (i : Nat) : Nat → Bool := fun j => j == i || dn j
theorem wpAny_done (G : (Nat → Bool) → Act → World → Prop) (hb : backB ops = true)
    (hstep : ∀ dn i o, ops[i]? = some o → dn i = false → (∀ e ∈ o.after, Region.binds .any e = true → dn e.on = true) → ∀ a w, G dn a w → wpOp P ops Q i (fun a' w' => G (andB dn i) a' w') a w)
    (hend : ∀ dn a w, (∀ j, j < ops.size → dn j = true) → G dn a w → Q .normal a w) :
    ∀ (fuel : Nat) (listed : Array Bool) (a : Act) (w : World), listed.size = ops.size → leftOf listed.toList ≤ fuel → G (fun j => listed.getD j false) a w → wpAny P .any ops Q fuel listed a w := by
  intro fuel
  induction fuel with
  | zero =>
    intro listed a w hs hf hG
    have hnil : Region.ready .any ops listed = [] := by
      cases hr : Region.ready .any ops listed with
      | nil => rfl
      | cons i rs =>
        have hm : i ∈ Region.ready .any ops listed := by rw [hr]; exact List.mem_cons_self
        obtain ⟨h0, o, ho, _⟩ := mem_ready.1 hm
        have hi : i < listed.size := by rw [hs]; exact (Array.getElem?_eq_some_iff.1 ho).1
        have := leftOf_pos (l := listed.toList) (i := i) (by simp [hi] at h0 ⊢; exact h0)
        omega
    exact ⟨hnil, hend _ a w (ready_none hb hs hnil) hG⟩
  | succ fuel ih =>
    intro listed a w hs hf hG
    refine ⟨fun hnil => hend _ a w (ready_none hb hs hnil) hG, fun i hm => ?_⟩
    obtain ⟨h0, o, ho, hall⟩ := mem_ready.1 hm
    have hi : i < listed.size := by rw [hs]; exact (Array.getElem?_eq_some_iff.1 ho).1
    have hi0 : listed.getD i false = false := by simp [hi] at h0 ⊢; exact h0
    refine wpOp_mono (fun a' w' h => ?_) (hstep _ i o ho hi0 (fun e he hbd => hall e he hbd) a w hG)
    refine ih _ a' w' (by simpa using hs) ?_ ?_
    · have := leftOf_set listed.toList i (by simp [hi] at h0 ⊢; exact h0)
      rw [Array.toList_setIfInBounds]
      omega
    · have e : (fun j => (listed.setIfInBounds i true).getD j false) = andB (fun j => listed.getD j false) i := by
        funext j
        unfold andB
        by_cases hji : j = i
        · subst hji
          simp [hi]
        · have : (j == i) = false := by simpa using hji
          rw [this, Bool.false_or]
          by_cases hj : j < listed.size
          · simp [hj, Ne.symm hji]
          · simp [hj]
      rw [e]; exact h
/-- the law -/
theorem wp_region_done {id : Nat} {a : Act} {w : World} (G : (Nat → Bool) → Act → World → Prop) (hm : P.follows .mixedOrders = true) (hb : backB ops = true)
    (hG : G (fun _ => false) a w.drew)
    (hstep : ∀ dn i o, ops[i]? = some o → dn i = false → (∀ e ∈ o.after, Region.binds .any e = true → dn e.on = true) → ∀ a w, G dn a w → wpOp P ops Q i (fun a' w' => G (andB dn i) a' w') a w)
    (hend : ∀ dn a w, (∀ j, j < ops.size → dn j = true) → G dn a w → Q .normal a w) : (Code.region id ops true).wp P Q a w :=
  wp_region_any hm (wpAny_done G hb hstep hend ops.size _ a _ (by simp) (by simp [leftOf]) (by
    have e : (fun j => (Array.replicate ops.size false).getD j false) = fun _ => false := by
      funext j
      by_cases hj : j < ops.size <;> simp [hj]
    rw [e]; exact hG))
end
end Go.Proofs.YtijidcigfdblaaaGreatDoor
namespace Go.Proofs.YtijidcigfdblaaaGreatDoor
open Go.RowKit Go.Nm

theorem arr36 {t : Array Value} (h : t.size = 36) : ∃ f : Nat → Value, t = #[f 0, f 1, f 2, f 3, f 4, f 5, f 6, f 7, f 8, f 9, f 10, f 11, f 12, f 13, f 14, f 15, f 16, f 17, f 18, f 19, f 20, f 21, f 22, f 23, f 24, f 25, f 26, f 27, f 28, f 29, f 30, f 31, f 32, f 33, f 34, f 35] := by
  refine ⟨fun k => t.getD k undef, ?_⟩
  apply Array.ext
  · simpa using h
  · intro i h1 h2
    have : i < 36 := by omega
    have hi : i = 0 ∨ i = 1 ∨ i = 2 ∨ i = 3 ∨ i = 4 ∨ i = 5 ∨ i = 6 ∨ i = 7 ∨ i = 8 ∨ i = 9 ∨ i = 10 ∨ i = 11 ∨ i = 12 ∨ i = 13 ∨ i = 14 ∨ i = 15 ∨ i = 16 ∨ i = 17 ∨ i = 18 ∨ i = 19 ∨ i = 20 ∨ i = 21 ∨ i = 22 ∨ i = 23 ∨ i = 24 ∨ i = 25 ∨ i = 26 ∨ i = 27 ∨ i = 28 ∨ i = 29 ∨ i = 30 ∨ i = 31 ∨ i = 32 ∨ i = 33 ∨ i = 34 ∨ i = 35 := by omega
    rcases hi with rfl | rfl | rfl | rfl | rfl | rfl | rfl | rfl | rfl | rfl | rfl | rfl | rfl | rfl | rfl | rfl | rfl | rfl | rfl | rfl | rfl | rfl | rfl | rfl | rfl | rfl | rfl | rfl | rfl | rfl | rfl | rfl | rfl | rfl | rfl | rfl <;> simp [Array.getD, h1]
def onlyN (K : Act → World → Prop) : Exit → Act → World → Prop
  | .normal, a, w => K a w
  | _, _, _ => False
def fst1 : Value → Value
  | .tuple ⟨[u, _]⟩ => u
  | _ => undef
/-- what open returned -/
def HsW (b : Bk) (vc : Value) (er : Int) (u : Value) (X : World) : Prop :=
  ∃ A n c A' n' c', u = .agg #[.slice A n c, .slice A' n' c'] ∧ (er = 0 → .slice A' n' c' = vc ∧ VsSl X X.heap.size (.slice A n c) (vers b)) ∧ (er ≠ 0 → u = nilH)
theorem HsW.step {b : Bk} {vc : Value} {er : Int} {u : Value} {X Y : World} (h : HsW b vc er u X) (hb : Below X.heap.size X Y) : HsW b vc er u Y := by
  obtain ⟨A, n, c, A', n', c', e, h1, h2⟩ := h
  exact ⟨A, n, c, A', n', c', e, fun e0 => ⟨(h1 e0).1, ((h1 e0).2.below hb).mono hb.size⟩, h2⟩
theorem HsW.store {b : Bk} {vc : Value} {er : Int} {u : Value} {X : World} {g : Nat} (h : HsW b vc er u X) (h0 : X.cell? ⟨g, 0, none⟩ = some (.slice none 0 0)) (h1 : X.cell? ⟨g, 1, none⟩ = some (.slice none 0 0)) (p q : Value) :
    HsW b vc er u ((X.setCell ⟨g, 0, none⟩ p).setCell ⟨g, 1, none⟩ q) := by
  obtain ⟨A, n, c, A', n', c', e, g1, g2⟩ := h
  refine ⟨A, n, c, A', n', c', e, fun e0 => ⟨(g1 e0).1, ?_⟩, g2⟩
  have hs : ((X.setCell ⟨g, 0, none⟩ p).setCell ⟨g, 1, none⟩ q).heap.size = X.heap.size := by simp
  rw [hs]
  refine ((g1 e0).2.store vers_ne h0 p).store vers_ne ?_ q
  rw [World.cell?_setCell_other _ _ _ _ (by intro e; injection e with e1 e2; omega)]
  exact h1
theorem HsW.of_op {b : Bk} {vc : Value} {er : Int} {w w' : World} {e : Ending} (h : OpR b vc er w e w') (hc : ∃ A n c, vc = .slice A n c) : ∃ u, e = .returned (.tuple #[u, .int .i64 er]) ∧ HsW b vc er u w' ∧ Below w.heap.size w w' := by
  obtain ⟨u, e1, h0, h1, hb⟩ := h
  by_cases he : er = 0
  · obtain ⟨vs, e2, hv, _⟩ := h0 he
    obtain ⟨A, c, e3⟩ := hv.form
    obtain ⟨A', n', c', e4⟩ := hc
    subst e3; subst e4
    exact ⟨u, e1, ⟨A, _, c, A', n', c', e2, fun _ => ⟨rfl, hv⟩, fun h => absurd he h⟩, hb⟩
  · have := h1 he
    exact ⟨u, e1, ⟨none, 0, 0, none, 0, 0, this, fun h => absurd h he, fun _ => this⟩, hb⟩
theorem run_append_int {o : Oper} {a : Act} {w : World} {K : Act → World → Prop} {Q : Exit → Act → World → Prop} (s x : Operand) (ho : o.op = .call { callee := .builtin .append, args := #[s, x], argTypes := #[30, 30] })
    (M : Nat) (v : Value) (L : List Int) (z : Int) (hs : a.eval s = v) (hown : w.ownsRow M 3 1 v L.length (intsV L)) (g : Nat) (hx : a.eval x = .slice (some ⟨g, 0, none⟩) 1 1) (hc : w.heap[g]? = some (.cells #[.int .i64 z] 3)) (hn : L.length ≤ 1000000) (hM : M ≤ w.heap.size)
    (h : ∀ v' w', w'.ownsRow M 3 1 v' (L ++ [z]).length (intsV (L ++ [z])) → w.grownBy w' v.ownBlock → (v'.ownBlock = v.ownBlock ∨ v'.ownBlock = some w.heap.size) → K (a.put o.dst v') w') : o.wp Tryz.prog a w K Q := by
  obtain ⟨i0, hi0, hz0, hz1, hz2⟩ := infoI
  obtain ⟨v', w', hr, h2, h3, _, h5⟩ := run_append_own_at (P := Tryz.prog) (w := w) M 30 o.type 3 i0 (.int .i64 0) 1 8 Tryz.underlying30 hi0 hz0 hz1 hz2 rfl (by decide) v L.length (intsV L) hown ⟨g, 0, none⟩ 1 1 [.int .i64 z] rfl
    (fun j u hj => by
      have e : (⟨g, 0, none⟩ : Addr).add j = ⟨g, j, none⟩ := by
        unfold Addr.add
        split
        · rename_i h; rw [h]
        · simp
      rw [e]
      simpa [World.cell?, hc] using hj) (fun u hu => by simp at hu; subst hu; rfl) (by unfold maxLen; omega) (by omega) hM
  unfold Oper.wp execOp
  simp only [ho, resolve, invoke, builtin, Sem.run_bind, Sem.run_pure, Result.andThen_ok, List.map_toArray, List.map_cons, List.map_nil, hs, hx, hr]
  exact h v' w' (by rw [List.length_append, intsV_append]; exact h2) h3 h5
theorem BkV.step' {W0 X : World} {v vc : Value} {b : Bk} (h : BkV W0 v b vc) (hb : Below W0.heap.size W0 X) : BkV X v b vc := h.step hb
/-- what openAt tells -/
def openAtE (b : Bk) (V : List Int) (n x : Int) : Int := if openE b (V ++ [n]) = 0 then (if x ∈ (vers b).getD n.toNat [] then 0 else 22) else openE b (V ++ [n])
theorem HsV.fin2 {W0 W : World} {G : Nat} {vs vc : Value} {b : Bk} (h : HsV W (.agg #[vs, vc]) b vc) (hb : Below W0.heap.size W0 W) (hG : W0.heap.size ≤ G) (h2 : ChSl W0 W0.heap.size vc b.chs) (r0 : W.cell? ⟨G, 0, none⟩ = some (.slice none 0 0)) (r1 : W.cell? ⟨G, 1, none⟩ = some (.slice none 0 0)) :
    HsV ((W.setCell ⟨G, 0, none⟩ vs).setCell ⟨G, 1, none⟩ vc) (.agg #[vs, vc]) b vc ∧ Below W0.heap.size W0 ((W.setCell ⟨G, 0, none⟩ vs).setCell ⟨G, 1, none⟩ vc) := by
  obtain ⟨vs', e, h1, _⟩ := h
  simp only [Value.agg.injEq, Array.mk.injEq, List.cons.injEq, and_true] at e
  subst e
  have hb2 : Below W0.heap.size W0 ((W.setCell ⟨G, 0, none⟩ vs).setCell ⟨G, 1, none⟩ vc) := (hb.setCell hG _).setCell hG _
  refine ⟨⟨vs, rfl, ?_, h2.step hb2⟩, hb2⟩
  have hs : ((W.setCell ⟨G, 0, none⟩ vs).setCell ⟨G, 1, none⟩ vc).heap.size = W.heap.size := by simp
  rw [hs]
  refine (h1.store vers_ne r0 vs).store vers_ne ?_ vc
  rw [World.cell?_setCell_other _ _ _ _ (by intro e; injection e with e1 e2; omega)]
  exact r1
theorem BkV.chs {w : World} {v vc : Value} {b : Bk} (h : BkV w v b vc) : ChSl w w.heap.size vc b.chs := by
  obtain ⟨v1, _, _, h2⟩ := h; exact h2
theorem versF_ok : ∀ (l : List Ch) (a : List Int) (y : Int), Inc a → a.length ≤ 400 → ∀ L ∈ versF a y l, Inc L ∧ L.length ≤ 400
  | [], a, y, h, h4, L, hL => by simp [versF] at hL; subst hL; exact ⟨h, h4⟩
  | x :: l, a, y, h, h4, L, hL => by
    unfold versF at hL
    split at hL
    · rename_i hx
      rcases List.mem_cons.1 hL with rfl | hL
      · exact ⟨h, h4⟩
      · refine versF_ok l _ _ (rep_inc h hx.2.2.1.2.2.1 hx.2.2.2.1.2.2.1 fun z hz hza => Classical.byContradiction fun hn => hx.2.2.2.2.2.1 z ((mem_wo hx.2.2.2.1.2.2.1 hx.2.2.1.2.2.1 z).2 ⟨hz, hn⟩) hza) hx.2.2.2.2.2.2 L hL
    · simp at hL; subst hL; exact ⟨h, h4⟩
theorem vers_ok {b : Bk} : ∀ L ∈ vers b, Inc L ∧ L.length ≤ 400 := fun L hL => by
  unfold vers at hL
  split at hL
  · rename_i h; exact versF_ok _ _ _ h.2.2.1 h.2.1 L hL
  · simp at hL
theorem openE_zero {b : Bk} {V : List Int} {n : Int} (h : openE b (V ++ [n]) = 0) : 0 ≤ n ∧ n < (vers b).length := by
  unfold openE at h
  split at h
  · split at h
    · rename_i h2; exact h2 n (by simp)
    · cases h
  · cases h
def OaR (W0 : World) (b : Bk) (vc : Value) (ea : Int) (e : Ending) (w' : World) : Prop := ∃ u, e = .returned (.tuple #[u, .int .i64 ea]) ∧ (ea = 0 → HsV w' u b vc) ∧ (ea ≠ 0 → u = nilH) ∧ Below W0.heap.size W0 w'
theorem OaR.bad {W0 w' : World} {b : Bk} {vc : Value} {ea : Int} (h : ea ≠ 0) (hb : Below W0.heap.size W0 w') : OaR W0 b vc ea (.returned (.tuple #[.agg #[.slice none 0 0, .slice none 0 0], .int .i64 ea])) w' := ⟨_, rfl, fun e => absurd e h, fun _ => rfl, hb⟩
theorem OaR.good {W0 w' : World} {b : Bk} {vc u : Value} (h : HsV w' u b vc) (hb : Below W0.heap.size W0 w') : OaR W0 b vc 0 (.returned (.tuple #[u, .int .i64 0])) w' := ⟨u, rfl, fun _ => h, fun e => absurd rfl e, hb⟩
end Go.Proofs.YtijidcigfdblaaaGreatDoor
namespace Go.Proofs.YtijidcigfdblaaaGreatDoor
open Go.RowKit Go.Nm

set_option maxRecDepth 100000 in
set_option maxHeartbeats 2000000 in
theorem clone_any (u : Value) (L : List Int) (w : World) (hu : InSl w w.heap.size u L) (hn : L.length ≤ 1000000) :
    Calls Tryz.prog 203 #[u] w fun e w' => ∃ r, e = .returned r ∧ OwN w r L w' := by
  have u22 : ∀ (w : World) (a : Option Addr) (n c n' c' : Nat), (binOp .eql 30 (.slice a n c) (.slice none n' c')).run Tryz.prog w = .ok (.bool a.isNone) w := fun w a n c n' c' => Lib.run_eql_slice_nil w _ _ a n c n' c' Tryz.underlying30
  obtain ⟨A, c, rfl, hc, hcm, hA⟩ := hu
  cases A with
  | none =>
    have h0 := hA.none_nil
    subst h0
    have HO := Lib.hid (OwN.start w)
    clear hA
    go_enter Tryz.func203, Tryz.ntmps203
    go_wp2_with fail
    go_ret
    exact ⟨_, rfl, HO.out⟩
  | some ad =>
    have HC := Lib.hid ((hA.below (below_new (.cells #[] 3))).cells)
    obtain ⟨i0, hi0, hz0, hz1, hz2⟩ := infoI
    have HZ := Lib.hid (show i0.size = 1 ∧ i0.bytes = 8 ∧ Tryz.prog.info? 3 = some i0 ∧ i0.zero = some (.int .i64 0) from ⟨hz1, hz2, hi0, hz0⟩)
    have HO0 := Lib.hid (show (w.alloc (.cells #[] 3)).ownsRow w.heap.size 3 1 (.slice (some ⟨w.heap.size, 0, none⟩) 0 0) 0 (intsV []) from World.ownsRow_lit (size := 1) w #[] 0 (Nat.le_refl _) (by unfold maxLen; omega) rfl)
    have HI0 := Lib.hid (show OwN w (.slice (some ⟨w.heap.size, 0, none⟩) 0 0) [] (w.alloc (.cells #[] 3)) from ⟨below_new _, HO0.out⟩)
    have HLn := Lib.hid (intsV_len L)
    have HOne := Lib.hid (intsV_one L)
    clear hA hz0 hz1 hz2 hi0
    go_enter Tryz.func203, Tryz.ntmps203
    go_wp2_with (at_builtin; refine wpList_append_own _ rfl _ _ 30 rfl w.heap.size 3 i0 (.int .i64 0) 1 8 Tryz.underlying30 HZ.out.2.2.1 HZ.out.2.2.2 HZ.out.1 HZ.out.2.1 rfl (by decide) (.slice (some ⟨w.heap.size, 0, none⟩) 0 0) 0 (intsV []) rfl HO0.out ad L.length c (intsV L) rfl (by rw [HLn.out, Nat.mul_one]) HC.out HOne.out (by unfold maxLen; omega) (by omega) (by simp) ?_; intro v4 w4 hown4 hg4 hnn4)
    have HO4 := Lib.hid (show OwN w v4 ([] ++ L) w4 from HI0.out.grown (M := L) (Below.refl _ _) hg4 hown4)
    clear hown4 hg4 hnn4
    go_wp2_with fail
    go_ret
    exact ⟨_, rfl, HO4.out⟩
theorem wp_region_tail {P : Program} {id : Nat} {Q : Exit → Act → World → Prop} {a : Act} {w : World} {l : List Oper} (n : Nat) (hm : P.follows .mixedOrders = true) (hB : Region.lexTailB .any l.toArray n = true)
    (h : wpStill P l.toArray w.drew (fun a' => wpList P l.toArray Q (l.drop n) a' w.drew) (l.take n) a) : (Code.region id l.toArray true).wp P Q a w := wp_region_still_tail n hm hB h

/-- what some names mean some versions on, and back -/
def fwdN (chs : List Ch) (v : Nat) : Nat → List Int → List Int
  | 0, l => l
  | k + 1, l => match chs[v + k]? with | some x => rep (fwdN chs v k l) x.fr x.to | none => fwdN chs v k l
def bwdN (chs : List Ch) (v : Nat) : Nat → List Int → List Int
  | 0, l => l
  | k + 1, l => match chs[v - (k + 1)]? with | some x => rep (bwdN chs v k l) x.to x.fr | none => bwdN chs v k l
def mns (chs : List Ch) (v : Nat) (l : List Int) (w : Nat) : List Int := if v ≤ w then fwdN chs v (w - v) l else bwdN chs v (v - w) l
theorem fwd_step {chs : List Ch} {v k : Nat} {l : List Int} {x : Ch} (h : chs[v + k]? = some x) : fwdN chs v (k + 1) l = rep (fwdN chs v k l) x.fr x.to := by
  conv => lhs; unfold fwdN
  rw [h]
theorem bwd_step {chs : List Ch} {v k : Nat} {l : List Int} {x : Ch} (h : chs[v - (k + 1)]? = some x) : bwdN chs v (k + 1) l = rep (bwdN chs v k l) x.to x.fr := by
  conv => lhs; unfold bwdN
  rw [h]
theorem rep_len (l fr to : List Int) : (rep l fr to).length ≤ l.length + to.length := by
  unfold rep
  have := wo_len l fr
  split
  · omega
  · rw [mg_len]; omega
end Go.Proofs.YtijidcigfdblaaaGreatDoor
namespace Go.Proofs.YtijidcigfdblaaaGreatDoor
open Go.RowKit Go.Nm

theorem one_sl (w : World) (x : Int) : InSl (w.alloc (.cells #[.int .i64 x] 3)) (w.alloc (.cells #[.int .i64 x] 3)).heap.size (.slice (some ⟨w.heap.size, 0, none⟩) 1 1) [x] :=
  ⟨some ⟨w.heap.size, 0, none⟩, 1, rfl, Nat.le_refl _, by unfold maxLen; omega, fun i y hy => by
    have hi : i = 0 := by have := (List.getElem?_eq_some_iff.1 hy).1; simp at this; omega
    subst hi
    simp at hy; subst hy
    exact ⟨_, rfl, by simp, cell_one_new w (.int .i64 x) 3 0 _ rfl⟩⟩
theorem one_own (W w : World) (x : Int) (h : W.heap.size ≤ w.heap.size) : (w.alloc (.cells #[.int .i64 x] 3)).ownsRow W.heap.size 3 1 (.slice (some ⟨w.heap.size, 0, none⟩) 1 1) 1 (intsV [x]) :=
  World.ownsRow_lit (size := 1) w #[.int .i64 x] 1 h (by unfold maxLen; omega) rfl
/-- a list and an errno -/
def OutN (R : List Int) (er : Int) (w : World) (e : Ending) (w' : World) : Prop := (∃ u, e = .returned (.tuple #[u, .int .i64 er]) ∧ InSl w' w'.heap.size u R) ∧ Below w.heap.size w w'
theorem OutN.nil {er : Int} {w w' : World} (hb : Below w.heap.size w w') : OutN [] er w (.returned (.tuple #[.slice none 0 0, .int .i64 er])) w' := ⟨⟨_, rfl, InSl.nil _ _⟩, hb⟩
theorem OutN.mk {R : List Int} {er : Int} {w w' : World} {u : Value} (hs : InSl w' w'.heap.size u R) (hb : Below w.heap.size w w') : OutN R er w (.returned (.tuple #[u, .int .i64 er])) w' := ⟨⟨u, rfl, hs⟩, hb⟩
def meansOut (b : Bk) (n x m : Int) : List Int × Int := if openAtE b [m] n x = 0 then (mns b.chs n.toNat [x] m.toNat, 0) else ([], openAtE b [m] n x)
theorem openE_val {b : Bk} {V : List Int} (h : openE b V = 0) : Val b ∧ ∀ v ∈ V, 0 ≤ v ∧ v < (vers b).length := by
  unfold openE at h
  split at h
  · rename_i hv
    split at h
    · rename_i h2; exact ⟨hv, h2⟩
    · cases h
  · cases h
theorem openAtE_zero {b : Bk} {V : List Int} {n x : Int} (h : openAtE b V n x = 0) : Val b ∧ (∀ v ∈ V ++ [n], 0 ≤ v ∧ v ≤ b.chs.length) ∧ x ∈ (vers b).getD n.toNat [] := by
  unfold openAtE at h
  split at h
  · rename_i h0
    obtain ⟨h1, h2⟩ := openE_val h0
    have := val_len h1
    split at h
    · rename_i h3
      exact ⟨h1, fun v hv => by have := h2 v hv; omega, h3⟩
    · cases h
  · rename_i h0; exact absurd h h0
end Go.Proofs.YtijidcigfdblaaaGreatDoor
namespace Go.Proofs.YtijidcigfdblaaaGreatDoor
open Go.RowKit Go.Nm

end Go.Proofs.YtijidcigfdblaaaGreatDoor
namespace Go.Proofs.YtijidcigfdblaaaGreatDoor
open Go.RowKit Go.Nm

theorem versF_head (l : List Ch) (a : List Int) (y : Int) : (versF a y l)[0]? = some a := by
  cases l with
  | nil => rfl
  | cons x l => unfold versF; split <;> rfl
theorem versF_step : ∀ (l : List Ch) (a : List Int) (y : Int), l.length < (versF a y l).length → ∀ k x, l[k]? = some x → ∃ A y', (versF a y l)[k]? = some A ∧ okCh A y' x ∧ (versF a y l)[k + 1]? = some (rep A x.fr x.to)
  | [], a, y, _, k, x, h => by simp at h
  | x0 :: l, a, y, hlen, k, x, h => by
    unfold versF at hlen ⊢
    split at hlen
    · rename_i hok
      rw [if_pos hok]
      cases k with
      | zero =>
        simp at h; subst h
        exact ⟨a, y, rfl, hok, by simpa using versF_head l (rep a x0.fr x0.to) x0.yr⟩
      | succ k =>
        obtain ⟨A, y', h1, h2, h3⟩ := versF_step l (rep a x0.fr x0.to) x0.yr (by simpa using hlen) k x (by simpa using h)
        exact ⟨A, y', by simpa using h1, h2, by simpa using h3⟩
    · simp at hlen
theorem vers_step {b : Bk} (hb : Val b) {k : Nat} {x : Ch} (h : b.chs[k]? = some x) : ∃ A y, (vers b)[k]? = some A ∧ okCh A y x ∧ (vers b)[k + 1]? = some (rep A x.fr x.to) := by
  have hv := hb.2
  unfold vers at hv ⊢
  split at hv
  · rename_i h0
    rw [if_pos h0]
    exact versF_step _ _ _ hv k x h
  · simp at hv
theorem vers_at {b : Bk} (hb : Val b) {k : Nat} (h : k ≤ b.chs.length) : ∃ A, (vers b)[k]? = some A ∧ Inc A ∧ A.length ≤ 400 := by
  have hl := val_len hb
  have hk : k < (vers b).length := by omega
  refine ⟨_, List.getElem?_eq_getElem hk, vers_ok _ (List.getElem_mem hk)⟩
/-- a step's facts -/
structure StepD (A B : List Int) (x : Ch) : Prop where
  ia : Inc A
  ib : Inc B
  ifr : Inc x.fr
  ito : Inc x.to
  eq : B = rep A x.fr x.to
  frA : ∀ z ∈ x.fr, z ∈ A
  toA : ∀ z ∈ x.to, z ∈ A → z ∈ x.fr
  frN : x.fr ≠ []
  toN : x.to ≠ []
theorem step_data {b : Bk} (hb : Val b) {k : Nat} {x : Ch} (h : b.chs[k]? = some x) : ∃ A B, (vers b)[k]? = some A ∧ (vers b)[k + 1]? = some B ∧ StepD A B x := by
  obtain ⟨A, y, h1, h2, h3⟩ := vers_step hb h
  have hA := vers_ok A (List.mem_of_getElem? h1)
  have hB := vers_ok _ (List.mem_of_getElem? h3)
  refine ⟨A, _, h1, h3, hA.1, hB.1, h2.2.2.1.2.2.1, h2.2.2.2.1.2.2.1, rfl, fun z hz => Classical.byContradiction fun hn => ?_, fun z hz hzA => Classical.byContradiction fun hn => ?_, fun e => by have := h2.2.2.1.1; rw [e] at this; simp at this, fun e => by have := h2.2.2.2.1.1; rw [e] at this; simp at this⟩
  · have : z ∈ wo x.fr A := (mem_wo h2.2.2.1.2.2.1 hA.1 z).2 ⟨hz, hn⟩
    rw [h2.2.2.2.2.1] at this; simp at this
  · exact h2.2.2.2.2.2.1 z ((mem_wo h2.2.2.2.1.2.2.1 h2.2.2.1.2.2.1 z).2 ⟨hz, hn⟩) hzA
theorem StepD.memB {A B : List Int} {x : Ch} (h : StepD A B x) {z : Int} : z ∈ B ↔ (z ∈ A ∧ z ∉ x.fr) ∨ z ∈ x.to := by
  rw [h.eq, mem_rep h.ia h.ifr]
  constructor
  · rintro (h1 | h1)
    · exact .inl h1
    · exact .inr h1.1
  · rintro (h1 | h1)
    · exact .inl h1
    · obtain ⟨y, hy⟩ := List.exists_mem_of_ne_nil _ h.frN
      exact .inr ⟨h1, y, h.frA y hy, hy⟩
theorem StepD.fwd {A B : List Int} {x : Ch} (h : StepD A B x) {l : List Int} (hl : Inc l) (hs : ∀ z ∈ l, z ∈ A) : Inc (rep l x.fr x.to) ∧ ∀ z ∈ rep l x.fr x.to, z ∈ B := by
  refine ⟨rep_inc hl h.ifr h.ito fun z hz hzl => h.toA z hz (hs z hzl), fun z hz => h.memB.2 ?_⟩
  rcases (mem_rep hl h.ifr).1 hz with h1 | h1
  · exact .inl ⟨hs z h1.1, h1.2⟩
  · exact .inr h1.1
theorem StepD.bwd {A B : List Int} {x : Ch} (h : StepD A B x) {l : List Int} (hl : Inc l) (hs : ∀ z ∈ l, z ∈ B) : Inc (rep l x.to x.fr) ∧ ∀ z ∈ rep l x.to x.fr, z ∈ A := by
  refine ⟨rep_inc hl h.ito h.ifr fun z hz hzl => ?_, fun z hz => ?_⟩
  · rcases h.memB.1 (hs z hzl) with h1 | h1
    · exact absurd hz h1.2
    · exact h1
  · rcases (mem_rep hl h.ito).1 hz with h1 | h1
    · rcases h.memB.1 (hs z h1.1) with h2 | h2
      · exact h2.1
      · exact absurd h2 h1.2
    · exact h.frA z h1.1
theorem fwdN_ok {b : Bk} (hb : Val b) {v : Nat} {l A : List Int} (hA : (vers b)[v]? = some A) (hl : Inc l) (hs : ∀ z ∈ l, z ∈ A) : ∀ k, v + k ≤ b.chs.length → ∃ B, (vers b)[v + k]? = some B ∧ Inc (fwdN b.chs v k l) ∧ ∀ z ∈ fwdN b.chs v k l, z ∈ B
  | 0, _ => ⟨A, hA, hl, hs⟩
  | k + 1, h => by
    obtain ⟨B, h1, h2, h3⟩ := fwdN_ok hb hA hl hs k (by omega)
    have hx : b.chs[v + k]? = some b.chs[v + k] := List.getElem?_eq_getElem (by omega)
    obtain ⟨A', B', g1, g2, g3⟩ := step_data hb hx
    rw [h1] at g1; injection g1 with g1; subst g1
    rw [fwd_step hx]
    exact ⟨B', g2, (g3.fwd h2 h3).1, (g3.fwd h2 h3).2⟩
theorem bwdN_ok {b : Bk} (hb : Val b) {v : Nat} {l A : List Int} (hA : (vers b)[v]? = some A) (hl : Inc l) (hs : ∀ z ∈ l, z ∈ A) (hv : v ≤ b.chs.length) : ∀ k, k ≤ v → ∃ B, (vers b)[v - k]? = some B ∧ Inc (bwdN b.chs v k l) ∧ ∀ z ∈ bwdN b.chs v k l, z ∈ B
  | 0, _ => ⟨A, hA, hl, hs⟩
  | k + 1, h => by
    obtain ⟨B, h1, h2, h3⟩ := bwdN_ok hb hA hl hs hv k (by omega)
    have hx : b.chs[v - (k + 1)]? = some b.chs[v - (k + 1)] := List.getElem?_eq_getElem (by omega)
    obtain ⟨A', B', g1, g2, g3⟩ := step_data hb hx
    rw [show v - (k + 1) + 1 = v - k by omega, h1] at g2; injection g2 with g2; subst g2
    rw [bwd_step hx]
    exact ⟨A', g1, (g3.bwd h2 h3).1, (g3.bwd h2 h3).2⟩
/-- what names mean is names of the other version, in order -/
theorem mns_ok {b : Bk} (hb : Val b) {v w : Nat} {l A : List Int} (hA : (vers b)[v]? = some A) (hl : Inc l) (hs : ∀ z ∈ l, z ∈ A) (hv : v ≤ b.chs.length) (hw : w ≤ b.chs.length) : ∃ B, (vers b)[w]? = some B ∧ Inc (mns b.chs v l w) ∧ ∀ z ∈ mns b.chs v l w, z ∈ B := by
  unfold mns
  split
  · obtain ⟨B, h1, h2⟩ := fwdN_ok hb hA hl hs (w - v) (by omega)
    rw [show v + (w - v) = w by omega] at h1
    exact ⟨B, h1, h2⟩
  · obtain ⟨B, h1, h2⟩ := bwdN_ok hb hA hl hs hv (v - w) (by omega)
    rw [show v - (v - w) = w by omega] at h1
    exact ⟨B, h1, h2⟩
theorem inc_sub_len : ∀ {l B : List Int}, Inc l → (∀ z ∈ l, z ∈ B) → l.length ≤ B.length
  | [], _, _, _ => Nat.zero_le _
  | x :: l, B, h, hs => by
    have hx := hs x List.mem_cons_self
    have ih := inc_sub_len (l := l) (B := B.erase x) h.tail fun z hz => (List.mem_erase_of_ne (by have := h.head z hz; omega)).2 (hs z (List.mem_cons_of_mem _ hz))
    rw [List.length_erase_of_mem hx] at ih
    have := List.length_pos_of_mem hx
    simp only [List.length_cons]; omega
end Go.Proofs.YtijidcigfdblaaaGreatDoor
namespace Go.Proofs.YtijidcigfdblaaaGreatDoor
open Go.RowKit Go.Nm

def namesOut (b : Bk) (n : Int) : List Int × Int := if openE b [n] = 0 then ((vers b).getD n.toNat [], 0) else ([], openE b [n])
end Go.Proofs.YtijidcigfdblaaaGreatDoor
namespace Go.Proofs.YtijidcigfdblaaaGreatDoor
open Go.RowKit Go.Nm

def relE (chs : List Ch) (n : Nat) (x : Int) (m : Nat) (y : Int) : Int :=
  if mns chs n [x] m = [y] then (if mns chs m [y] n = [x] then 1 else 2) else if mns chs m [y] n = [x] then 3 else if y ∈ mns chs n [x] m then 4 else 0
theorem shape (f : List Int) (y : Int) : f = [y] ∨ (∃ z, f = [z] ∧ z ≠ y) ∨ ((f.length : Int) ≠ 1 ∧ f ≠ [y]) := by
  match f with
  | [] => exact .inr (.inr ⟨by simp, by simp⟩)
  | [z] => by_cases h : z = y
           · exact .inl (by rw [h])
           · exact .inr (.inl ⟨z, rfl, h⟩)
  | z :: z' :: f => exact .inr (.inr ⟨by simp; omega, by simp⟩)
end Go.Proofs.YtijidcigfdblaaaGreatDoor
namespace Go.Proofs.YtijidcigfdblaaaGreatDoor
open Go.RowKit Go.Nm

theorem arr45 {t : Array Value} (h : t.size = 45) : ∃ f : Nat → Value, t = #[f 0, f 1, f 2, f 3, f 4, f 5, f 6, f 7, f 8, f 9, f 10, f 11, f 12, f 13, f 14, f 15, f 16, f 17, f 18, f 19, f 20, f 21, f 22, f 23, f 24, f 25, f 26, f 27, f 28, f 29, f 30, f 31, f 32, f 33, f 34, f 35, f 36, f 37, f 38, f 39, f 40, f 41, f 42, f 43, f 44] := by
  refine ⟨fun k => t.getD k undef, ?_⟩
  apply Array.ext
  · simpa using h
  · intro i h1 h2
    have : i < 45 := by omega
    have hi : i = 0 ∨ i = 1 ∨ i = 2 ∨ i = 3 ∨ i = 4 ∨ i = 5 ∨ i = 6 ∨ i = 7 ∨ i = 8 ∨ i = 9 ∨ i = 10 ∨ i = 11 ∨ i = 12 ∨ i = 13 ∨ i = 14 ∨ i = 15 ∨ i = 16 ∨ i = 17 ∨ i = 18 ∨ i = 19 ∨ i = 20 ∨ i = 21 ∨ i = 22 ∨ i = 23 ∨ i = 24 ∨ i = 25 ∨ i = 26 ∨ i = 27 ∨ i = 28 ∨ i = 29 ∨ i = 30 ∨ i = 31 ∨ i = 32 ∨ i = 33 ∨ i = 34 ∨ i = 35 ∨ i = 36 ∨ i = 37 ∨ i = 38 ∨ i = 39 ∨ i = 40 ∨ i = 41 ∨ i = 42 ∨ i = 43 ∨ i = 44 := by omega
    rcases hi with rfl | rfl | rfl | rfl | rfl | rfl | rfl | rfl | rfl | rfl | rfl | rfl | rfl | rfl | rfl | rfl | rfl | rfl | rfl | rfl | rfl | rfl | rfl | rfl | rfl | rfl | rfl | rfl | rfl | rfl | rfl | rfl | rfl | rfl | rfl | rfl | rfl | rfl | rfl | rfl | rfl | rfl | rfl | rfl | rfl <;> simp [Array.getD, h1]
/-- while a change is looked at: what holds, by which operations are done -/
structure ChG (W : World) (n x i len : Int) (gh gx : Nat) (vc o hv vf : Value) (F : List Int) (q : Bool) (f0 : Nat → Value) (dn : Nat → Bool) (a : Act) (X : World) : Prop where
  sz : a.tmps.size = 45
  t0 : a.tmps.getD 0 undef = f0 0
  t1 : a.tmps.getD 1 undef = .int .i64 n
  t2 : a.tmps.getD 2 undef = .int .i64 x
  t3 : a.tmps.getD 3 undef = f0 3
  t4 : a.tmps.getD 4 undef = f0 4
  t5 : a.tmps.getD 5 undef = f0 5
  t6 : a.tmps.getD 6 undef = .slice none 0 0
  t7 : a.tmps.getD 7 undef = .int .i64 0
  t8 : a.tmps.getD 8 undef = .pointer (some ⟨gh, 0, none⟩)
  t9 : a.tmps.getD 9 undef = f0 9
  t10 : a.tmps.getD 10 undef = o
  t11 : a.tmps.getD 11 undef = .int .i64 i
  t12 : a.tmps.getD 12 undef = .pointer (some ⟨gx, 0, none⟩)
  t13 : a.tmps.getD 13 undef = f0 13
  t14 : a.tmps.getD 14 undef = f0 14
  t15 : a.tmps.getD 15 undef = f0 15
  t16 : a.tmps.getD 16 undef = f0 16
  t17 : a.tmps.getD 17 undef = f0 17
  t18 : a.tmps.getD 18 undef = f0 18
  t19 : a.tmps.getD 19 undef = f0 19
  t20 : a.tmps.getD 20 undef = f0 20
  t21 : a.tmps.getD 21 undef = f0 21
  t22 : a.tmps.getD 22 undef = f0 22
  t23 : a.tmps.getD 23 undef = f0 23
  t24 : a.tmps.getD 24 undef = vc
  t25 : a.tmps.getD 25 undef = .int .i64 len
  t26 : a.tmps.getD 26 undef = .int .i64 i
  t44 : a.tmps.getD 44 undef = undef
  ds : a.defers = []
  bel : Below W.heap.size W X
  e0 : dn 0 = true → a.tmps.getD 31 undef = .pointer (some ⟨gx, 1, none⟩)
  e1 : dn 1 = true → a.tmps.getD 32 undef = vf
  e2 : dn 2 = true → a.tmps.getD 33 undef = hv
  e3 : dn 3 = true → a.tmps.getD 34 undef = .int .i64 n
  e4 : dn 4 = true → a.tmps.getD 35 undef = .int .i64 x
  e5 : dn 5 = true → a.tmps.getD 36 undef = .int .i64 i
  e6 : dn 6 = true → InSl X X.heap.size (a.tmps.getD 37 undef) F
  e7 : dn 7 = true → a.tmps.getD 38 undef = .bool q
  o6 : dn 6 = true → dn 2 = true ∧ dn 3 = true ∧ dn 4 = true ∧ dn 5 = true
  o7 : dn 7 = true → dn 1 = true ∧ dn 6 = true
theorem ChG.all {W : World} {n x i len : Int} {gh gx : Nat} {vc o hv vf : Value} {F : List Int} {q : Bool} {f0 : Nat → Value} {dn : Nat → Bool} {a : Act} {X : World} (h : ChG W n x i len gh gx vc o hv vf F q f0 dn a X) (hd : ∀ j, j < 8 → dn j = true) : ChG W n x i len gh gx vc o hv vf F q f0 (fun _ => true) a X :=
  ⟨h.sz, h.t0, h.t1, h.t2, h.t3, h.t4, h.t5, h.t6, h.t7, h.t8, h.t9, h.t10, h.t11, h.t12, h.t13, h.t14, h.t15, h.t16, h.t17, h.t18, h.t19, h.t20, h.t21, h.t22, h.t23, h.t24, h.t25, h.t26, h.t44, h.ds, h.bel, fun _ => h.e0 (hd 0 (by omega)), fun _ => h.e1 (hd 1 (by omega)), fun _ => h.e2 (hd 2 (by omega)), fun _ => h.e3 (hd 3 (by omega)), fun _ => h.e4 (hd 4 (by omega)), fun _ => h.e5 (hd 5 (by omega)), fun _ => h.e6 (hd 6 (by omega)), fun _ => h.e7 (hd 7 (by omega)), fun _ => ⟨rfl, rfl, rfl, rfl⟩, fun _ => ⟨rfl, rfl⟩⟩
/-- the changes that touch a name, among the first -/
def chainT (chs : List Ch) (n : Nat) (x : Int) (k : Nat) : List Int := ((List.range k).filter fun i => match chs[i]? with | some c => (mns chs n [x] i).any fun z => decide (z ∈ c.fr) | none => false).map fun i : Nat => (i : Int)
def chainOut (b : Bk) (n x : Int) : List Int × Int := if openAtE b [] n x = 0 then (chainT b.chs n.toNat x b.chs.length, 0) else ([], openAtE b [] n x)
theorem chainT_next {chs : List Ch} {n k : Nat} {x : Int} {c : Ch} (h : chs[k]? = some c) : chainT chs n x (k + 1) = chainT chs n x k ++ (if (mns chs n [x] k).any (fun z => decide (z ∈ c.fr)) then [(k : Int)] else []) := by
  unfold chainT
  rw [List.range_succ, List.filter_append, List.map_append]
  congr 1
  rw [List.filter_cons, List.filter_nil, h]
  cases hq : (mns chs n [x] k).any (fun z => decide (z ∈ c.fr)) <;> simp [hq]
theorem meas_next {len k : Nat} (h : k < len) (hl : len ≤ 1000) : len - (wrap64 ((k : Int) + 1)).toNat < len - k := by
  have e1 : wrap64 ((k : Int) + 1) = (k : Int) + 1 := by unfold wrap64; omega
  rw [e1]; omega
theorem chainT_len (chs : List Ch) (n : Nat) (x : Int) (k : Nat) : (chainT chs n x k).length ≤ k := by
  unfold chainT
  rw [List.length_map]
  exact Nat.le_trans (List.length_filter_le _ _) (by simp)
end Go.Proofs.YtijidcigfdblaaaGreatDoor
namespace Go.Proofs.YtijidcigfdblaaaGreatDoor
open Go.RowKit Go.Nm Go.Maps

theorem keyI : Keyed Tryz.prog 3 := int_keyed Tryz.underlying3
theorem zeroI (w : World) : (zeroValue 3).run Tryz.prog w = .ok (.int .i64 0) w := by kernel_rfl
/-- the map in block mb reads as f -/
structure MI (W : World) (mb n : Nat) (f : Int → Int) (X : World) : Prop where
  bel : Below W.heap.size W X
  new : W.heap.size ≤ mb
  map : ∃ D : DataW Unit, X.ownsMap Tryz.prog 3 (plainElem Tryz.prog 3) mb n D ∧ ∀ k, D.atKey (.int .i64 k) (.lit (.int .i64 0)) = .lit (.int .i64 (f k))
  wf : ∀ k, (Lit.int .i64 (f k)).wf = true
/-- .. it has just these keys, each at 1 -/
structure MS (W : World) (mb : Nat) (L : List Int) (X : World) : Prop where
  bel : Below W.heap.size W X
  new : W.heap.size ≤ mb
  map : ∃ D : DataW Unit, X.ownsMap Tryz.prog 3 (plainElem Tryz.prog 3) mb L.length D ∧ (∀ k, D.atKey (.int .i64 k) (.lit (.int .i64 0)) = .lit (.int .i64 (if k ∈ L then 1 else 0))) ∧ (∀ k, has D (.int .i64 k) = decide (k ∈ L)) ∧ size D = L.length
theorem ne_lit {a b : Int} (h : a ≠ b) : (Lit.int .i64 a) ≠ .int .i64 b := fun e => h (by injection e)
theorem isK (k : Int) : WideAt.IsKeyLit (.int .i64 k) := trivial
theorem MS.made (W X : World) (hb : Below W.heap.size W X) : MS W X.heap.size [] (X.alloc (.map #[] 0)) :=
  ⟨hb.alloc hb.size _, hb.size, .map [], World.ownsMap_made _ _ _ _, fun _ => rfl, fun _ => rfl, rfl⟩
theorem MS.mi {W X : World} {mb : Nat} {L : List Int} (h : MS W mb L X) : MI W mb L.length (fun k => if k ∈ L then 1 else 0) X := by
  obtain ⟨hb, hn, D, h1, h2, _⟩ := h
  exact ⟨hb, hn, ⟨D, h1, h2⟩, fun k => by split <;> decide⟩
theorem MI.mono {W X : World} {mb n n' : Nat} {f : Int → Int} (h : MI W mb n f X) (hn : n ≤ n') : MI W mb n' f X := by
  obtain ⟨hb, hw, ⟨D, h1, h2⟩, h3⟩ := h
  exact ⟨hb, hw, ⟨D, h1.mono hn, h2⟩, h3⟩
theorem MI.alloc {W X : World} {mb n : Nat} {f : Int → Int} (h : MI W mb n f X) (o : Obj) : MI W mb n f (X.alloc o) := by
  obtain ⟨hb, hw, ⟨D, h1, h2⟩, h3⟩ := h
  exact ⟨hb.alloc hb.size _, hw, ⟨D, h1.alloc o, h2⟩, h3⟩
theorem MI.drew {W X : World} {mb n : Nat} {f : Int → Int} (h : MI W mb n f X) : MI W mb n f X.drew := by
  obtain ⟨hb, hw, ⟨D, h1, h2⟩, h3⟩ := h
  exact ⟨hb.drew, hw, ⟨D, h1.drew, h2⟩, h3⟩
section
variable {ops : Array Oper} {rest : List Oper} {o : Oper} {a : Act} {Q : Exit → Act → World → Prop} {W w : World} {mb n : Nat} {f : Int → Int} {L : List Int}
theorem wpList_lookup_mi (hg : o.guard = none) (m x : Operand) (hop : o.op = Op.lookup 264 m x false) (hM : MI W mb n f w) (hm : a.eval m = .map (some mb)) (z : Int) (hx : a.eval x = .int .i64 z) (hz : (Lit.int .i64 z).wf = true)
    (hK : wpList Tryz.prog ops Q rest (a.put o.dst (.int .i64 (f z))) w) : wpList Tryz.prog ops Q (o :: rest) a w := by
  obtain ⟨_, _, ⟨D, h1, h2⟩, _⟩ := hM
  refine wpList_lookup_own_int w hg m x 264 hop 3 3 .i64 keyI Tryz.underlying264 Tryz.underlying3 (zeroI _) mb n D hm h1 _ _ hx (keyOf_int_mk Tryz.underlying3 hz) ?_
  intro c hat _
  have := (h2 z).symm.trans hat
  injection this with h; injection h with _ h
  rw [← h]; exact hK
theorem wpList_put_mi (hg : o.guard = none) (m x v : Operand) (hop : o.op = Op.mapUpdate 264 m x v) (hM : MI W mb n f w) (hn : n < maxLen) (hm : a.eval m = .map (some mb)) (z : Int) (hx : a.eval x = .int .i64 z) (hz : (Lit.int .i64 z).wf = true) (c : Int) (hv : a.eval v = .int .i64 c) (hc : (Lit.int .i64 c).wf = true)
    (hK : ∀ w', MI W mb (n + 1) (fun k => if k = z then c else f k) w' → w.grownBy w' (some mb) → wpList Tryz.prog ops Q rest (a.put o.dst undef) w') : wpList Tryz.prog ops Q (o :: rest) a w := by
  obtain ⟨hb, hw, ⟨D, h1, h2⟩, h3⟩ := hM
  refine wpList_mapUpdate_in w hg m x v 264 hop 3 3 keyI Tryz.underlying264 _ mb n D hm h1 hn _ _ _ hx hv (keyOf_int_mk Tryz.underlying3 hz) _ [] (plainElem_int Tryz.underlying3 hc) ?_
  intro w' h4 h5
  refine hK w' ⟨hb.grown h5.grown hb.size (fun k e => by cases e; exact hw), hw, ⟨_, h4, fun k => ?_⟩, fun k => by (try dsimp only); split; exact hc; exact h3 k⟩ h5.grown
  by_cases hk : k = z
  · subst hk; rw [atKey_put_same h1.isMap (isK _), if_pos rfl]
  · rw [atKey_put_other (ne_lit hk), h2, if_neg hk]
theorem wpList_del_mi (hg : o.guard = none) (m x : Operand) (hop : o.op = Op.call { callee := Callee.builtin Builtin.delete, args := #[m, x], argTypes := #[264, 3] }) (hM : MI W mb n f w) (hm : a.eval m = .map (some mb)) (z : Int) (hx : a.eval x = .int .i64 z) (hz : (Lit.int .i64 z).wf = true)
    (hK : ∀ w', MI W mb n (fun k => if k = z then 0 else f k) w' → w.grownBy w' (some mb) → wpList Tryz.prog ops Q rest (a.put o.dst (.tuple #[])) w') : wpList Tryz.prog ops Q (o :: rest) a w := by
  obtain ⟨hb, hw, ⟨D, h1, h2⟩, h3⟩ := hM
  refine wpList_delete_own w hg m x 264 3 hop 3 keyI Tryz.underlying264 _ mb n D hm h1 _ _ hx (keyOf_int_mk Tryz.underlying3 hz) ?_
  intro w' h4 h5
  refine hK w' ⟨hb.grown h5.grown hb.size (fun k e => by cases e; exact hw), hw, ⟨_, h4, fun k => ?_⟩, fun k => by (try dsimp only); split; decide; exact h3 k⟩ h5.grown
  by_cases hk : k = z
  · subst hk; rw [atKey_del_same, if_pos rfl]
  · rw [atKey_del_other (ne_lit hk), h2, if_neg hk]
theorem wpList_put_ms (hg : o.guard = none) (m x v : Operand) (hop : o.op = Op.mapUpdate 264 m x v) (hM : MS W mb L w) (hn : L.length < maxLen) (hm : a.eval m = .map (some mb)) (z : Int) (hx : a.eval x = .int .i64 z) (hz : (Lit.int .i64 z).wf = true) (hzL : z ∉ L) (hv : a.eval v = .int .i64 1)
    (hK : ∀ w', MS W mb (L ++ [z]) w' → w.grownBy w' (some mb) → wpList Tryz.prog ops Q rest (a.put o.dst undef) w') : wpList Tryz.prog ops Q (o :: rest) a w := by
  obtain ⟨hb, hw, D, h1, h2, h3, h6⟩ := hM
  refine wpList_mapUpdate_in w hg m x v 264 hop 3 3 keyI Tryz.underlying264 _ mb L.length D hm h1 hn _ _ _ hx hv (keyOf_int_mk Tryz.underlying3 hz) _ [] (plainElem_int Tryz.underlying3 (by decide)) ?_
  intro w' h4 h5
  refine hK w' ⟨hb.grown h5.grown hb.size (fun k e => by cases e; exact hw), hw, _, by rw [List.length_append]; exact h4, fun k => ?_, fun k => ?_, ?_⟩ h5.grown
  · by_cases hk : k = z
    · subst hk; rw [atKey_put_same h1.isMap (isK _), if_pos (by simp)]
    · rw [atKey_put_other (ne_lit hk), h2]; simp [hk]
  · by_cases hk : k = z
    · subst hk; rw [has_put_same h1.isMap (isK _)]; simp
    · rw [has_put_other (ne_lit hk), h3]; simp [hk]
  · rw [size_put (h1.tidy keyI), h3, h6]; simp [hzL]
theorem wpList_len_ms (hg : o.guard = none) (m : Operand) (hop : o.op = Op.call { callee := Callee.builtin Builtin.len, args := #[m], argTypes := #[264] }) (hM : MS W mb L w) (hm : a.eval m = .map (some mb)) (nn : Nat) (hl : L.length = nn)
    (hK : wpList Tryz.prog ops Q rest (a.put o.dst (.int .i64 nn)) w) : wpList Tryz.prog ops Q (o :: rest) a w := by
  obtain ⟨hb, hw, D, h1, h2, h3, h6⟩ := hM
  refine wpList_len_own w hg m 264 hop 3 3 Tryz.underlying264 _ mb _ D hm h1 ?_
  rw [h6, hl]; exact hK
end
def takeS (p : (Int → Int) × Int) (x : Int) : (Int → Int) × Int := (fun k => if k = x then 0 else p.1 k, wrap64 (p.2 + p.1 x))
def takeF (f : Int → Int) (l : List Int) : (Int → Int) × Int := l.foldl takeS (f, 0)
def putS (c : Int) (f : Int → Int) (x : Int) : Int → Int := fun k => if k = x then c else f k
def putF (f : Int → Int) (c : Int) (l : List Int) : Int → Int := l.foldl (putS c) f
def chS (p : (Int → Int) × Int) (c : Ch) : (Int → Int) × Int := (putF (takeF p.1 c.fr).1 (takeF p.1 c.fr).2 c.to, wrap64 (p.2 + wrap64 ((takeF p.1 c.fr).2 * ((c.to.length : Int) - 1))))
def cntF : List Ch → (Int → Int) × Int → Int
  | [], p => p.2
  | c :: r, p => if p.2 > 2048 then p.2 else cntF r (chS p c)
def cnt (b : Bk) : Int := cntF b.chs (fun k => if k ∈ b.first then 1 else 0, b.first.length)
theorem take_next {l : List Int} {j : Nat} {x : Int} (h : l[j]? = some x) : l.take (j + 1) = l.take j ++ [x] := by
  rw [List.take_add_one, h]; rfl
theorem takeF_next {f : Int → Int} {l : List Int} {j : Nat} {x : Int} (h : l[j]? = some x) : takeF f (l.take (j + 1)) = takeS (takeF f (l.take j)) x := by
  unfold takeF; rw [take_next h, List.foldl_append]; rfl
theorem putF_next {f : Int → Int} {c : Int} {l : List Int} {j : Nat} {x : Int} (h : l[j]? = some x) : putF f c (l.take (j + 1)) = putS c (putF f c (l.take j)) x := by
  unfold putF; rw [take_next h, List.foldl_append]; rfl
theorem cntF_next {l : List Ch} {k : Nat} {c : Ch} (h : l[k]? = some c) (p : (Int → Int) × Int) : cntF (l.drop k) p = if p.2 > 2048 then p.2 else cntF (l.drop (k + 1)) (chS p c) := by
  obtain ⟨hk, rfl⟩ := List.getElem?_eq_some_iff.1 h
  rw [List.drop_eq_getElem_cons hk]; rfl
end Go.Proofs.YtijidcigfdblaaaGreatDoor
namespace Go.Proofs.YtijidcigfdblaaaGreatDoor
open Go.RowKit Go.Nm Go.Maps

def WfB (b : Bk) : Prop := (∀ x ∈ b.first, 1 ≤ x ∧ x ≤ 65535) ∧ ∀ c ∈ b.chs, (∀ x ∈ c.fr, 1 ≤ x ∧ x ≤ 65535) ∧ ∀ x ∈ c.to, 1 ≤ x ∧ x ≤ 65535
theorem wf_nm {x : Int} (h : 1 ≤ x ∧ x ≤ 65535) : (Lit.int .i64 x).wf = true := WalkArith.wf_i64 (by omega)
theorem add_zero' (a : Addr) : a.add 0 = a := by simp [Addr.add]
theorem grown_blk {X Y : World} {mb i : Nat} {o : Obj} (hg : X.grownBy Y (some mb)) (h : X.heap[i]? = some o) (hne : i ≠ mb) : Y.heap[i]? = some o :=
  (hg.block i (Array.getElem?_eq_some_iff.1 h).1 (fun e => hne (by injection e))).trans h
theorem takeF_wf : ∀ (l : List Int) (p : (Int → Int) × Int), (Lit.int .i64 p.2).wf = true → (Lit.int .i64 (l.foldl takeS p).2).wf = true
  | [], _, h => h
  | x :: l, p, _ => takeF_wf l (takeS p x) (wrap64_wf _)
theorem nm_new {L : List Int} {k : Nat} {x : Int} (hi : Inc L) (h : L[k]? = some x) : x ∉ L.take k := by
  intro hm
  obtain ⟨j, hj, e⟩ := List.getElem_of_mem hm
  have hj' : j < k := by simp at hj; omega
  have hjL : L[j]? = some x := by rw [← e]; simp
  have hk := (List.getElem?_eq_some_iff.1 h).1
  have h1 : L[j]'(by omega) = x := (List.getElem?_eq_some_iff.1 hjL).2
  have h2 : L[k] = x := (List.getElem?_eq_some_iff.1 h).2
  have := (List.pairwise_iff_getElem.1 hi) j k (by omega) hk hj'
  omega
def rich (b : Bk) : Bool := decide (2048 < cnt b)
theorem versF_zero (a : List Int) (y : Int) (l : List Ch) : (versF a y l)[0]? = some a := by
  cases l with
  | nil => rfl
  | cons x l => unfold versF; split <;> rfl
theorem val_ver {b : Bk} (h : Val b) : Ver b.first := by
  have h2 := h.2
  unfold vers at h2
  split at h2
  · assumption
  · simp at h2
theorem val_first {b : Bk} (h : Val b) : (vers b)[0]? = some b.first := by
  unfold vers; rw [if_pos (val_ver h)]; exact versF_zero _ _ _
theorem val_wf {b : Bk} (h : Val b) : WfB b := by
  refine ⟨(val_ver h).2.2.2, fun c hc => ?_⟩
  obtain ⟨k, hk, e⟩ := List.getElem_of_mem hc
  obtain ⟨A, y, h1, h2, h3⟩ := vers_step h (by rw [← e]; exact List.getElem?_eq_getElem hk : b.chs[k]? = some c)
  exact ⟨h2.2.2.1.2.2.2, h2.2.2.2.1.2.2.2⟩
end Go.Proofs.YtijidcigfdblaaaGreatDoor
namespace Go.Proofs.YtijidcigfdblaaaGreatDoor
open Go.RowKit Go.Nm

def relOut (b : Bk) (n x m y : Int) : Int × Int := if openAtE b [m] n x = 0 then (if y ∈ (vers b).getD m.toNat [] then (if rich b then (0, 2) else (relE b.chs n.toNat x m.toNat y, 0)) else (0, 22)) else (0, openAtE b [m] n x)
def OutI (r er : Int) (w : World) (e : Ending) (w' : World) : Prop := e = .returned (.tuple #[.int .i64 r, .int .i64 er]) ∧ Below w.heap.size w w'
theorem vers_sl {w : World} {v vc : Value} {b : Bk} (h : HsV w v b vc) : ∃ Av cv, v = .agg #[.slice Av (vers b).length cv, vc] ∧ VsSl w w.heap.size (.slice Av (vers b).length cv) (vers b) := by
  obtain ⟨vs, rfl, h1, _⟩ := h
  obtain ⟨Av, cv, rfl⟩ := h1.form
  exact ⟨Av, cv, rfl, h1⟩
end Go.Proofs.YtijidcigfdblaaaGreatDoor
namespace Go.Proofs.YtijidcigfdblaaaGreatDoor
open Go.RowKit Go.Nm

/-- the first of some names that is the same -/
def exF (chs : List Ch) (n : Nat) (x : Int) (m : Nat) : List Int → Int × Int
  | [] => (0, 3)
  | y :: l => if relE chs n x m y = 1 then (y, 0) else exF chs n x m l
def exS (chs : List Ch) (n : Nat) (x : Int) (m : Nat) : Int × Int := exF chs n x m (mns chs n [x] m)
def exOut (b : Bk) (n x m : Int) : Int × Int := if openAtE b [m] n x = 0 then (if rich b then (0, 2) else exS b.chs n.toNat x m.toNat) else (0, openAtE b [m] n x)
theorem exF_next {chs : List Ch} {n m k : Nat} {x y : Int} {l : List Int} (h : l[k]? = some y) : exF chs n x m (l.drop k) = if relE chs n x m y = 1 then (y, 0) else exF chs n x m (l.drop (k + 1)) := by
  obtain ⟨hk, rfl⟩ := List.getElem?_eq_some_iff.1 h
  rw [List.drop_eq_getElem_cons hk]; rfl
end Go.Proofs.YtijidcigfdblaaaGreatDoor
namespace Go.Proofs.YtijidcigfdblaaaGreatDoor
open Go.RowKit Go.Nm

theorem same_next {α : Type} {L M : List α} {i : Nat} {x y : α} (h : ∀ j, j < i → L[j]? = M[j]?) (hx : L[i]? = some x) (hy : M[i]? = some y) (he : x = y) : ∀ j, j < i + 1 → L[j]? = M[j]? := by
  intro j hj
  by_cases h1 : j < i
  · exact h j h1
  · obtain rfl : j = i := by omega
    rw [hx, hy, he]
theorem same_end {α : Type} {L M : List α} {n : Nat} (hL : L.length = n) (hM : M.length = n) (h : ∀ j, j < n → L[j]? = M[j]?) : L = M := by
  apply List.ext_getElem?
  intro j
  by_cases hj : j < n
  · exact h j hj
  · rw [List.getElem?_eq_none (by omega), List.getElem?_eq_none (by omega)]
end Go.Proofs.YtijidcigfdblaaaGreatDoor
namespace Go.Proofs.YtijidcigfdblaaaGreatDoor
open Go.RowKit Go.Nm

theorem VsSl.form2 {w : World} {B : Nat} {v : Value} {LL : List (List Int)} (h : VsSl w B v LL) : ∃ A c, v = .slice A LL.length c ∧ VsSl w B (.slice A LL.length c) LL := by
  obtain ⟨A, c, rfl⟩ := h.form
  exact ⟨A, c, rfl, h⟩
end Go.Proofs.YtijidcigfdblaaaGreatDoor
namespace Go.Proofs.YtijidcigfdblaaaGreatDoor
open Go.RowKit Go.Nm

end Go.Proofs.YtijidcigfdblaaaGreatDoor
namespace Go.Proofs.YtijidcigfdblaaaGreatDoor
open Go.RowKit Go.Nm

/-- the names that may follow in a fate -/
def furF (b : Bk) (g : List Int) : List Int := match g.getLast? with
  | none => b.first
  | some x => match b.chs[g.length - 1]? with
    | some c => if x ∈ c.fr then c.to else [x]
    | none => [x]
theorem last_at {g : List Int} {k : Nat} {x : Int} (hk : g.length = k + 1) (h : g[k]? = some x) : g.getLast? = some x := by
  rw [List.getLast?_eq_getElem?, hk]; exact h
theorem off_add (g : Nat) (k : Nat) : (⟨g, 0, none⟩ : Addr).add k = ⟨g, k, none⟩ := by cases k <;> simp [Addr.add]
end Go.Proofs.YtijidcigfdblaaaGreatDoor
