/- A set of squares in memory: a map keyed by squares, all of whose elements are true. -/
import Derived.Test.YtabolonlkocopaaDoorSqW
import Derived.Maps.OwnSet
import Derived.Maps.RangeWalk
import Derived.Maps.Ext
import Derived.DeepKeys5
namespace Go.Proofs.YtabolonlkocopaaDoor
open Go.RowKit Go.Plc

theorem laidOut : laidOutB Tryd.prog = true := by kernel_rfl
set_option maxRecDepth 100000 in
theorem sqSmall : Tryd.prog.types.size + 2 ≤ 10000 := of_decide_eq_true (by kernel_rfl)
theorem sqRow : (23 : TypeId) < Tryd.prog.types.size := of_decide_eq_true (by kernel_rfl)
theorem sqKey : Tryd.prog.keyType 23 = true := by kernel_rfl
set_option maxRecDepth 100000 in
theorem sqWide : (match Tryd.prog.underlying 23 with | some (.array _ _) | some (.struct _) => true | _ => false) = true := by rw [Tryd.underlying23]
set_option maxRecDepth 100000 in
theorem KSq : Maps.Keyed Tryd.prog 23 := Maps.Keyed.of_law (deep_law_gate laidOut sqSmall sqRow sqKey sqWide)
theorem sqCells : Tryd.prog.cellsOf 23 = 3 := by kernel_rfl
theorem intCells : Tryd.prog.cellsOf 3 = 1 := by kernel_rfl

/-- its fields are integers of 64 bits -/
def SqFits (s : Sq) : Prop := (Lit.int .i64 s.l).wf = true ∧ (Lit.int .i64 s.x).wf = true ∧ (Lit.int .i64 s.y).wf = true
theorem keyLits_sq (s : Sq) (h : SqFits s) (m : Nat) : Tryd.prog.keyLits (m + 2) 23 [.int .i64 s.l, .int .i64 s.x, .int .i64 s.y] = some [.int .i64 s.l, .int .i64 s.x, .int .i64 s.y] := by
  obtain ⟨h1, h2, h3⟩ := h
  unfold Program.keyLits
  rw [Tryd.underlying23]
  have k1 : ∀ a : Int, (Lit.int .i64 a).wf = true → Tryd.prog.keyLits (m + 1) 3 [.int .i64 a] = some [.int .i64 a] := fun a ha => by
    unfold Program.keyLits
    rw [Tryd.underlying3]
    simp [ha]
  simp [sqCells, intCells, k1, h1, h2, h3]
theorem keyOf_sq (s : Sq) (h : SqFits s) : keyOf Tryd.prog 23 (sqv s) = some (.string (keyBytes [.int .i64 s.l, .int .i64 s.x, .int .i64 s.y])) := by
  have hf : (sqv s).formed Tryd.prog 23 = true := by
    unfold sqv
    simp [Value.formed, Tryd.underlying23, sqCells]
  obtain ⟨m, hm⟩ : ∃ m, Tryd.prog.types.size = m + 1 := ⟨Tryd.prog.types.size - 1, by have h : (23 : Nat) < Tryd.prog.types.size := sqRow; omega⟩
  unfold keyOf
  rw [Tryd.underlying23]
  have hl := keyLits_sq s h m
  rw [hm]
  simp [sqKey, hf]
  exact ⟨_, hl, rfl⟩
/-- the key of a square -/
def keyL (s : Sq) : Lit := .string (keyBytes [.int .i64 s.l, .int .i64 s.x, .int .i64 s.y])
theorem keyL_inj {s t : Sq} (hs : SqFits s) (ht : SqFits t) (h : keyL s = keyL t) : s = t := by
  have e := KSq.inj (keyOf_sq s hs) ((keyOf_sq t ht).trans (by rw [show Lit.string (keyBytes [.int .i64 t.l, .int .i64 t.x, .int .i64 t.y]) = keyL t from rfl, ← h]; rfl))
  unfold sqv at e
  simp at e
  exact Sq.ext3 e.1 e.2.1 e.2.2
theorem ok_fits {s : Sq} (h : s.okB = true) : SqFits s := by
  obtain ⟨h1, h2, h3, h4, h5, h6⟩ := (Sq.okB_iff s).1 h
  have := side_le s.l h1
  exact ⟨WalkArith.wf_i64 (by omega), WalkArith.wf_i64 (by omega), WalkArith.wf_i64 (by omega)⟩

theorem plainElem_bool_inv {H : Type} {P : Program} {e : TypeId} (he : P.underlying e = some .bool) {v : Value} {z : DataW H × List MemPlace} (h : plainElem P e v = some z) : ∃ x, v = .bool x ∧ z = (.lit (.bool x), []) := by
  unfold plainElem at h
  rw [he] at h
  cases v <;> simp at h
  exact ⟨_, rfl, h.symm⟩

abbrev DU := DataW Unit
def tru : DU := .lit (.bool true)
def pairOf (s : Sq) : Lit × DU := (keyL s, tru)
noncomputable abbrev RB : Value → Option (DU × List MemPlace) := plainElem Tryd.prog 4

/-- block b is a map whose keys are the squares L, all of whose elements are true -/
def RowAt (w : World) (b : Nat) (L : List Sq) : Prop :=
  ∃ es : List (Lit × DU), w.ownsMap Tryd.prog 23 RB b L.length (.map es) ∧ es.Perm (L.map pairOf) ∧ L.Nodup ∧ ∀ s ∈ L, SqFits s

theorem tight {w : World} {b n : Nat} {D : DU} (h : w.ownsMap Tryd.prog 23 RB b n D) : w.ownsMap Tryd.prog 23 RB b (Maps.size D) D := by
  obtain ⟨es, clock, hb, F, hs, rfl⟩ := h
  exact ⟨es, clock, hb, F, by simp [Maps.size, length_sorted], rfl⟩

theorem RowAt.lt {w : World} {b : Nat} {L : List Sq} (h : RowAt w b L) : b < w.heap.size := by
  obtain ⟨es, h, _⟩ := h; exact h.lt
theorem RowAt.perm {w : World} {b : Nat} {L L' : List Sq} (h : RowAt w b L) (p : L.Perm L') : RowAt w b L' := by
  obtain ⟨es, h1, h2, h3, h4⟩ := h
  exact ⟨es, by rw [← p.length_eq]; exact h1, h2.trans (p.map _), p.nodup h3, fun s hs => h4 s (p.mem_iff.2 hs)⟩
theorem RowAt.new (w : World) : RowAt (w.alloc (.map #[] 0)) w.heap.size [] :=
  ⟨[], World.ownsMap_made _ _ _ _, List.Perm.refl _, List.nodup_nil, by simp⟩
theorem RowAt.block {w w' : World} {b : Nat} {L : List Sq} (h : RowAt w b L) (hb : w'.heap[b]? = w.heap[b]?) : RowAt w' b L := by
  obtain ⟨es, ⟨es', clock, h1, h2⟩, h3⟩ := h
  exact ⟨es, ⟨es', clock, hb.trans h1, h2⟩, h3⟩

/-- no key twice, so one entry -/
theorem sameKey_iff {s t : Sq} (hs : SqFits s) (ht : SqFits t) : (keyL s).sameKey (keyL t) = decide (s = t) := by
  by_cases e : s = t
  · subst e; simp [WideAt.sameKey_self (KSq.key (keyOf_sq s hs) : WideAt.IsKeyLit (keyL s))]
  · simp only [e, decide_false]
    exact Maps.sameKey_ne fun h => e (keyL_inj hs ht h)
theorem has_row {es : List (Lit × DU)} {L : List Sq} (hp : es.Perm (L.map pairOf)) (hL : ∀ s ∈ L, SqFits s) {s : Sq} (hs : SqFits s) : Maps.has (.map es : DU) (keyL s) = decide (s ∈ L) := by
  rw [Maps.has_eq, Bool.eq_iff_iff]
  simp only [List.any_eq_true, decide_eq_true_eq]
  constructor
  · rintro ⟨p, hp1, hp2⟩
    obtain ⟨t, ht, rfl⟩ := List.mem_map.1 (hp.mem_iff.1 hp1)
    rw [show (pairOf t).1 = keyL t from rfl, sameKey_iff (hL t ht) hs] at hp2
    have : t = s := by simpa using hp2
    exact this ▸ ht
  · intro h
    exact ⟨pairOf s, hp.mem_iff.2 (List.mem_map.2 ⟨s, h, rfl⟩), by rw [show (pairOf s).1 = keyL s from rfl, sameKey_iff hs hs]; simp⟩
theorem atKey_row {es : List (Lit × DU)} {L : List Sq} (hp : es.Perm (L.map pairOf)) (hL : ∀ s ∈ L, SqFits s) {s : Sq} (hs : SqFits s) : (DataW.map es : DU).atKey (keyL s) (.lit (.bool false)) = .lit (.bool (decide (s ∈ L))) := by
  have hh := has_row hp hL hs
  by_cases h : s ∈ L
  · rw [show decide (s ∈ L) = true by simpa using h] at hh ⊢
    rw [Maps.has_eq] at hh
    unfold DataW.atKey
    dsimp only
    cases hf : es.find? (fun p => p.1.sameKey (keyL s)) with
    | none => rw [List.find?_eq_none] at hf; obtain ⟨p, h1, h2⟩ := List.any_eq_true.1 hh; exact absurd h2 (by simpa using hf p h1)
    | some p =>
      have hm := List.mem_of_find?_eq_some hf
      obtain ⟨t, _, rfl⟩ := List.mem_map.1 (hp.mem_iff.1 hm)
      rfl
  · rw [show decide (s ∈ L) = false by simpa using h] at hh ⊢
    exact Maps.atKey_of_not_has hh _

theorem zeroBool (w : World) : (zeroValue 4).run Tryd.prog w = .ok (.bool false) w := by kernel_rfl

/-- 'm[s]' -/
theorem RowAt.look {w : World} {b : Nat} {L : List Sq} (h : RowAt w b L) {s : Sq} (hs : SqFits s) :
    (Instr.lookup 82 (.map (some b)) (sqv s) false).run Tryd.prog w = .ok (.bool (decide (s ∈ L))) w := by
  obtain ⟨es, h1, h2, h3, h4⟩ := h
  obtain ⟨v, ps, hrun, hv⟩ := h1.lookup KSq Tryd.underlying82 (zeroBool w) (plainElem_bool Tryd.underlying4 false) (keyOf_sq s hs)
  rw [hrun]
  rw [show Lit.string (keyBytes [.int .i64 s.l, .int .i64 s.x, .int .i64 s.y]) = keyL s from rfl, atKey_row h2 h4 hs] at hv
  obtain ⟨x, rfl, hx⟩ := plainElem_bool_inv Tryd.underlying4 hv
  simp at hx
  rw [hx.1]

theorem filter_other {es : List (Lit × DU)} {L : List Sq} (hp : es.Perm (L.map pairOf)) (hL : ∀ s ∈ L, SqFits s) {s : Sq} (hs : SqFits s) :
    (es.filter fun p => !p.1.sameKey (keyL s)).Perm ((L.filter fun t => !decide (t = s)).map pairOf) := by
  refine (hp.filter _).trans (List.Perm.of_eq ?_)
  rw [List.filter_map]
  congr 1
  refine List.filter_congr fun t ht => ?_
  show (!((pairOf t).1.sameKey (keyL s))) = _
  rw [show (pairOf t).1 = keyL t from rfl, sameKey_iff (hL t ht) hs]
theorem filter_mem_add {L : List Sq} (hn : L.Nodup) (s : Sq) : (s :: L.filter fun t => !decide (t = s)).Perm (addS L s) := by
  unfold addS
  split
  · rename_i h
    have : (L.filter fun t => !decide (t = s)) = L.erase s := by
      rw [hn.erase_eq_filter]
      exact List.filter_congr fun t _ => by simp [bne, BEq.beq]
    rw [this]
    exact (List.perm_cons_erase h).symm
  · rename_i h
    have : (L.filter fun t => !decide (t = s)) = L := List.filter_eq_self.2 fun t ht => by
      have : t ≠ s := fun e => h (e ▸ ht)
      simp [this]
    rw [this]
    exact List.perm_append_comm (l₁ := [s]) 
theorem addS_nodup {L : List Sq} (hn : L.Nodup) (s : Sq) : (addS L s).Nodup := by
  unfold addS
  split
  · exact hn
  · rename_i h
    rw [List.nodup_append]
    refine ⟨hn, by simp, ?_⟩
    intro a ha b hb e
    simp at hb
    exact h (hb ▸ e ▸ ha)
theorem mem_addS {L : List Sq} {s t : Sq} : t ∈ addS L s ↔ t ∈ L ∨ t = s := by
  unfold addS
  split
  · rename_i h
    exact ⟨.inl, fun h' => h'.elim id fun e => e ▸ h⟩
  · simp

/-- 'm[s] = true' -/
theorem RowAt.store {w : World} {b : Nat} {L : List Sq} (h : RowAt w b L) {s : Sq} (hs : SqFits s) (hlen : L.length < maxLen) :
    ∃ w', (Instr.mapUpdate 82 (.map (some b)) (sqv s) (.bool true)).run Tryd.prog w = .ok () w' ∧ RowAt w' b (addS L s) ∧ w.mapTurned w' b := by
  obtain ⟨es, h1, h2, h3, h4⟩ := h
  obtain ⟨w', hrun, hown, ht⟩ := h1.store KSq Tryd.underlying82 hlen (keyOf_sq s hs) (plainElem_bool Tryd.underlying4 true)
  have hp : (DataW.insert (keyL s, tru) (es.filter fun p => !p.1.sameKey (keyL s))).Perm ((addS L s).map pairOf) := by
    refine (Go.WideShapes.insert_perm _ _).trans (((filter_other h2 h4 hs).cons (keyL s, tru)).trans ?_)
    exact (filter_mem_add h3 s).map pairOf
  refine ⟨w', hrun, ⟨DataW.insert (keyL s, tru) (es.filter fun p => !p.1.sameKey (keyL s)), ?_, hp, addS_nodup h3 s, fun t ht => ?_⟩, ht⟩
  · have := tight hown
    rw [show Maps.size (DataW.put (DataW.map es : DU) (Lit.string (keyBytes [.int .i64 s.l, .int .i64 s.x, .int .i64 s.y])) (.lit (.bool true))) = (addS L s).length by
      have := hp.length_eq; rw [List.length_map] at this; exact this] at this
    exact this
  · rcases mem_addS.1 ht with h | h
    · exact h4 t h
    · exact h ▸ hs

/-- 'delete(m, s)' -/
theorem RowAt.drop {w : World} {b : Nat} {L : List Sq} (h : RowAt w b L) {s : Sq} (hs : SqFits s) (ty : TypeId) :
    ∃ w', (Builtin.delete_ #[82, 23] ty #[.map (some b), sqv s]).run Tryd.prog w = .ok (.tuple #[]) w' ∧ RowAt w' b (dropS L s) ∧ w.mapTurned w' b := by
  obtain ⟨es, h1, h2, h3, h4⟩ := h
  obtain ⟨w', hrun, hown, ht⟩ := h1.drop KSq Tryd.underlying82 (keyOf_sq s hs) ty
  have hp := filter_other h2 h4 hs
  refine ⟨w', hrun, ⟨_, ?_, hp, h3.filter _, fun t ht => h4 t (List.mem_filter.1 ht).1⟩, ht⟩
  have := tight hown
  rw [show Maps.size (DataW.del (DataW.map es : DU) (Lit.string (keyBytes [.int .i64 s.l, .int .i64 s.x, .int .i64 s.y]))) = (dropS L s).length by
    have := hp.length_eq; rw [List.length_map] at this; exact this] at this
  exact this

/-- 'len(m)' -/
theorem RowAt.len {w : World} {b : Nat} {L : List Sq} (h : RowAt w b L) (ty : TypeId) : (Builtin.len_ #[82] ty #[.map (some b)]).run Tryd.prog w = .ok (.int .i64 L.length) w := by
  obtain ⟨es, h1, h2, h3, h4⟩ := h
  rw [h1.len Tryd.underlying82 ty]
  rw [show Maps.size (DataW.map es : DU) = L.length by have := h2.length_eq; rw [List.length_map] at this; exact this]

end Go.Proofs.YtabolonlkocopaaDoor
