
/- A set of squares in memory: a map keyed by squares, all of whose elements are true. -/
import Derived.Test.YtabolonlkocopaaGreatDoorSqW
import Derived.Maps.OwnSet
import Derived.Maps.RangeWalk
import Derived.Maps.Ext
import Derived.DeepKeys5
import Derived.StillTailTactics
namespace Go.Proofs.YtabolonlkocopaaGreatDoor
open Go.RowKit Go.Plc

theorem laidOut : laidOutB Tryz.prog = true := by kernel_rfl
set_option maxRecDepth 100000 in
theorem sqSmall : Tryz.prog.types.size + 2 ≤ 10000 := of_decide_eq_true (by kernel_rfl)
theorem sqRow : (31 : TypeId) < Tryz.prog.types.size := of_decide_eq_true (by kernel_rfl)
theorem sqKey : Tryz.prog.keyType 31 = true := by kernel_rfl
set_option maxRecDepth 100000 in
theorem sqWide : (match Tryz.prog.underlying 31 with | some (.array _ _) | some (.struct _) => true | _ => false) = true := by rw [Tryz.underlying31]
set_option maxRecDepth 100000 in
theorem KSq : Maps.Keyed Tryz.prog 31 := Maps.Keyed.of_law (deep_law_gate laidOut sqSmall sqRow sqKey sqWide)
theorem sqCells : Tryz.prog.cellsOf 31 = 3 := by kernel_rfl
theorem intCells : Tryz.prog.cellsOf 3 = 1 := by kernel_rfl

/-- its fields are integers of 64 bits -/
def SqFits (s : Sq) : Prop := (Lit.int .i64 s.l).wf = true ∧ (Lit.int .i64 s.x).wf = true ∧ (Lit.int .i64 s.y).wf = true
theorem keyLits_sq (s : Sq) (h : SqFits s) (m : Nat) : Tryz.prog.keyLits (m + 2) 31 [.int .i64 s.l, .int .i64 s.x, .int .i64 s.y] = some [.int .i64 s.l, .int .i64 s.x, .int .i64 s.y] := by
  obtain ⟨h1, h2, h3⟩ := h
  unfold Program.keyLits
  rw [Tryz.underlying31]
  have k1 : ∀ a : Int, (Lit.int .i64 a).wf = true → Tryz.prog.keyLits (m + 1) 3 [.int .i64 a] = some [.int .i64 a] := fun a ha => by
    unfold Program.keyLits
    rw [Tryz.underlying3]
    simp [ha]
  simp [sqCells, intCells, k1, h1, h2, h3]
theorem keyOf_sq (s : Sq) (h : SqFits s) : keyOf Tryz.prog 31 (sqv s) = some (.string (keyBytes [.int .i64 s.l, .int .i64 s.x, .int .i64 s.y])) := by
  have hf : (sqv s).formed Tryz.prog 31 = true := by
    unfold sqv
    simp [Value.formed, Tryz.underlying31, sqCells]
  obtain ⟨m, hm⟩ : ∃ m, Tryz.prog.types.size = m + 1 := ⟨Tryz.prog.types.size - 1, by have h : (31 : Nat) < Tryz.prog.types.size := sqRow; omega⟩
  unfold keyOf
  rw [Tryz.underlying31]
  have hl := keyLits_sq s h m
  rw [hm]
  simp [sqKey, hf]
  exact ⟨_, hl, rfl⟩
/-- the key of a square -/
def keyL (s : Sq) : Lit := .string (keyBytes [.int .i64 s.l, .int .i64 s.x, .int .i64 s.y])
theorem keyL_inj {s t : Sq} (hs : SqFits s) (ht : SqFits t) (h : keyL s = keyL t) : s = t := by
  have e := KSq.inj (keyOf_sq s hs) ((keyOf_sq t ht).trans (by rw [show Lit.string (keyBytes [.int .i64 t.l, .int .i64 t.x, .int .i64 t.y]) = keyL t from rfl, ← h]; rfl))
  unfold sqv at e
  simp at e
  exact Sq.ext3 e.1 e.2.1 e.2.2
theorem ok_fits {s : Sq} (h : s.okB = true) : SqFits s := by
  obtain ⟨h1, h2, h3, h4, h5, h6⟩ := (Sq.okB_iff s).1 h
  have := side_le s.l h1
  exact ⟨WalkArith.wf_i64 (by omega), WalkArith.wf_i64 (by omega), WalkArith.wf_i64 (by omega)⟩

theorem plainElem_bool_inv {H : Type} {P : Program} {e : TypeId} (he : P.underlying e = some .bool) {v : Value} {z : DataW H × List MemPlace} (h : plainElem P e v = some z) : ∃ x, v = .bool x ∧ z = (.lit (.bool x), []) := by
  unfold plainElem at h
  rw [he] at h
  cases v <;> simp at h
  exact ⟨_, rfl, h.symm⟩

abbrev DU := DataW Unit
def tru : DU := .lit (.bool true)
def pairOf (s : Sq) : Lit × DU := (keyL s, tru)
noncomputable abbrev RB : Value → Option (DU × List MemPlace) := plainElem Tryz.prog 4

/-- block b is a map whose keys are the squares L, all of whose elements are true -/
def RowAt (w : World) (b : Nat) (L : List Sq) : Prop :=
  ∃ es : List (Lit × DU), w.ownsMap Tryz.prog 31 RB b L.length (.map es) ∧ es.Perm (L.map pairOf) ∧ L.Nodup ∧ ∀ s ∈ L, SqFits s

theorem tight {w : World} {b n : Nat} {D : DU} (h : w.ownsMap Tryz.prog 31 RB b n D) : w.ownsMap Tryz.prog 31 RB b (Maps.size D) D := by
  obtain ⟨es, clock, hb, F, hs, rfl⟩ := h
  exact ⟨es, clock, hb, F, by simp [Maps.size, length_sorted], rfl⟩

theorem RowAt.lt {w : World} {b : Nat} {L : List Sq} (h : RowAt w b L) : b < w.heap.size := by
  obtain ⟨es, h, _⟩ := h; exact h.lt
theorem RowAt.perm {w : World} {b : Nat} {L L' : List Sq} (h : RowAt w b L) (p : L.Perm L') : RowAt w b L' := by
  obtain ⟨es, h1, h2, h3, h4⟩ := h
  exact ⟨es, by rw [← p.length_eq]; exact h1, h2.trans (p.map _), p.nodup h3, fun s hs => h4 s (p.mem_iff.2 hs)⟩
theorem RowAt.new (w : World) : RowAt (w.alloc (.map #[] 0)) w.heap.size [] :=
  ⟨[], World.ownsMap_made _ _ _ _, List.Perm.refl _, List.nodup_nil, by simp⟩
theorem RowAt.block {w w' : World} {b : Nat} {L : List Sq} (h : RowAt w b L) (hb : w'.heap[b]? = w.heap[b]?) : RowAt w' b L := by
  obtain ⟨es, ⟨es', clock, h1, h2⟩, h3⟩ := h
  exact ⟨es, ⟨es', clock, hb.trans h1, h2⟩, h3⟩

/-- no key twice, so one entry -/
theorem sameKey_iff {s t : Sq} (hs : SqFits s) (ht : SqFits t) : (keyL s).sameKey (keyL t) = decide (s = t) := by
  by_cases e : s = t
  · subst e; simp [WideAt.sameKey_self (KSq.key (keyOf_sq s hs) : WideAt.IsKeyLit (keyL s))]
  · simp only [e, decide_false]
    exact Maps.sameKey_ne fun h => e (keyL_inj hs ht h)
theorem has_row {es : List (Lit × DU)} {L : List Sq} (hp : es.Perm (L.map pairOf)) (hL : ∀ s ∈ L, SqFits s) {s : Sq} (hs : SqFits s) : Maps.has (.map es : DU) (keyL s) = decide (s ∈ L) := by
  rw [Maps.has_eq, Bool.eq_iff_iff]
  simp only [List.any_eq_true, decide_eq_true_eq]
  constructor
  · rintro ⟨p, hp1, hp2⟩
    obtain ⟨t, ht, rfl⟩ := List.mem_map.1 (hp.mem_iff.1 hp1)
    rw [show (pairOf t).1 = keyL t from rfl, sameKey_iff (hL t ht) hs] at hp2
    have : t = s := by simpa using hp2
    exact this ▸ ht
  · intro h
    exact ⟨pairOf s, hp.mem_iff.2 (List.mem_map.2 ⟨s, h, rfl⟩), by rw [show (pairOf s).1 = keyL s from rfl, sameKey_iff hs hs]; simp⟩
theorem atKey_row {es : List (Lit × DU)} {L : List Sq} (hp : es.Perm (L.map pairOf)) (hL : ∀ s ∈ L, SqFits s) {s : Sq} (hs : SqFits s) : (DataW.map es : DU).atKey (keyL s) (.lit (.bool false)) = .lit (.bool (decide (s ∈ L))) := by
  have hh := has_row hp hL hs
  by_cases h : s ∈ L
  · rw [show decide (s ∈ L) = true by simpa using h] at hh ⊢
    rw [Maps.has_eq] at hh
    unfold DataW.atKey
    dsimp only
    cases hf : es.find? (fun p => p.1.sameKey (keyL s)) with
    | none => rw [List.find?_eq_none] at hf; obtain ⟨p, h1, h2⟩ := List.any_eq_true.1 hh; exact absurd h2 (by simpa using hf p h1)
    | some p =>
      have hm := List.mem_of_find?_eq_some hf
      obtain ⟨t, _, rfl⟩ := List.mem_map.1 (hp.mem_iff.1 hm)
      rfl
  · rw [show decide (s ∈ L) = false by simpa using h] at hh ⊢
    exact Maps.atKey_of_not_has hh _

theorem zeroBool (w : World) : (zeroValue 4).run Tryz.prog w = .ok (.bool false) w := by kernel_rfl

/-- 'm[s]' -/
theorem RowAt.look {w : World} {b : Nat} {L : List Sq} (h : RowAt w b L) {s : Sq} (hs : SqFits s) :
    (Instr.lookup 52 (.map (some b)) (sqv s) false).run Tryz.prog w = .ok (.bool (decide (s ∈ L))) w := by
  obtain ⟨es, h1, h2, h3, h4⟩ := h
  obtain ⟨v, ps, hrun, hv⟩ := h1.lookup KSq Tryz.underlying52 (zeroBool w) (plainElem_bool Tryz.underlying4 false) (keyOf_sq s hs)
  rw [hrun]
  rw [show Lit.string (keyBytes [.int .i64 s.l, .int .i64 s.x, .int .i64 s.y]) = keyL s from rfl, atKey_row h2 h4 hs] at hv
  obtain ⟨x, rfl, hx⟩ := plainElem_bool_inv Tryz.underlying4 hv
  simp at hx
  rw [hx.1]

theorem filter_other {es : List (Lit × DU)} {L : List Sq} (hp : es.Perm (L.map pairOf)) (hL : ∀ s ∈ L, SqFits s) {s : Sq} (hs : SqFits s) :
    (es.filter fun p => !p.1.sameKey (keyL s)).Perm ((L.filter fun t => !decide (t = s)).map pairOf) := by
  refine (hp.filter _).trans (List.Perm.of_eq ?_)
  rw [List.filter_map]
  congr 1
  refine List.filter_congr fun t ht => ?_
  show (!((pairOf t).1.sameKey (keyL s))) = _
  rw [show (pairOf t).1 = keyL t from rfl, sameKey_iff (hL t ht) hs]
theorem filter_mem_add {L : List Sq} (hn : L.Nodup) (s : Sq) : (s :: L.filter fun t => !decide (t = s)).Perm (addS L s) := by
  unfold addS
  split
  · rename_i h
    have : (L.filter fun t => !decide (t = s)) = L.erase s := by
      rw [hn.erase_eq_filter]
      exact List.filter_congr fun t _ => by simp [bne, BEq.beq]
    rw [this]
    exact (List.perm_cons_erase h).symm
  · rename_i h
    have : (L.filter fun t => !decide (t = s)) = L := List.filter_eq_self.2 fun t ht => by
      have : t ≠ s := fun e => h (e ▸ ht)
      simp [this]
    rw [this]
    exact List.perm_append_comm (l₁ := [s]) 
theorem addS_nodup {L : List Sq} (hn : L.Nodup) (s : Sq) : (addS L s).Nodup := by
  unfold addS
  split
  · exact hn
  · rename_i h
    rw [List.nodup_append]
    refine ⟨hn, by simp, ?_⟩
    intro a ha b hb e
    simp at hb
    exact h (hb ▸ e ▸ ha)
theorem mem_addS {L : List Sq} {s t : Sq} : t ∈ addS L s ↔ t ∈ L ∨ t = s := by
  unfold addS
  split
  · rename_i h
    exact ⟨.inl, fun h' => h'.elim id fun e => e ▸ h⟩
  · simp

/-- 'm[s] = true' -/
theorem RowAt.store {w : World} {b : Nat} {L : List Sq} (h : RowAt w b L) {s : Sq} (hs : SqFits s) (hlen : L.length < maxLen) :
    ∃ w', (Instr.mapUpdate 52 (.map (some b)) (sqv s) (.bool true)).run Tryz.prog w = .ok () w' ∧ RowAt w' b (addS L s) ∧ w.mapTurned w' b := by
  obtain ⟨es, h1, h2, h3, h4⟩ := h
  obtain ⟨w', hrun, hown, ht⟩ := h1.store KSq Tryz.underlying52 hlen (keyOf_sq s hs) (plainElem_bool Tryz.underlying4 true)
  have hp : (DataW.insert (keyL s, tru) (es.filter fun p => !p.1.sameKey (keyL s))).Perm ((addS L s).map pairOf) := by
    refine (Go.WideShapes.insert_perm _ _).trans (((filter_other h2 h4 hs).cons (keyL s, tru)).trans ?_)
    exact (filter_mem_add h3 s).map pairOf
  refine ⟨w', hrun, ⟨DataW.insert (keyL s, tru) (es.filter fun p => !p.1.sameKey (keyL s)), ?_, hp, addS_nodup h3 s, fun t ht => ?_⟩, ht⟩
  · have := tight hown
    rw [show Maps.size (DataW.put (DataW.map es : DU) (Lit.string (keyBytes [.int .i64 s.l, .int .i64 s.x, .int .i64 s.y])) (.lit (.bool true))) = (addS L s).length by
      have := hp.length_eq; rw [List.length_map] at this; exact this] at this
    exact this
  · rcases mem_addS.1 ht with h | h
    · exact h4 t h
    · exact h ▸ hs

/-- 'delete(m, s)' -/
theorem RowAt.drop {w : World} {b : Nat} {L : List Sq} (h : RowAt w b L) {s : Sq} (hs : SqFits s) (ty : TypeId) :
    ∃ w', (Builtin.delete_ #[52, 31] ty #[.map (some b), sqv s]).run Tryz.prog w = .ok (.tuple #[]) w' ∧ RowAt w' b (dropS L s) ∧ w.mapTurned w' b := by
  obtain ⟨es, h1, h2, h3, h4⟩ := h
  obtain ⟨w', hrun, hown, ht⟩ := h1.drop KSq Tryz.underlying52 (keyOf_sq s hs) ty
  have hp := filter_other h2 h4 hs
  refine ⟨w', hrun, ⟨_, ?_, hp, h3.filter _, fun t ht => h4 t (List.mem_filter.1 ht).1⟩, ht⟩
  have := tight hown
  rw [show Maps.size (DataW.del (DataW.map es : DU) (Lit.string (keyBytes [.int .i64 s.l, .int .i64 s.x, .int .i64 s.y]))) = (dropS L s).length by
    have := hp.length_eq; rw [List.length_map] at this; exact this] at this
  exact this

/-- 'len(m)' -/
theorem RowAt.len {w : World} {b : Nat} {L : List Sq} (h : RowAt w b L) (ty : TypeId) : (Builtin.len_ #[52] ty #[.map (some b)]).run Tryz.prog w = .ok (.int .i64 L.length) w := by
  obtain ⟨es, h1, h2, h3, h4⟩ := h
  rw [h1.len Tryz.underlying52 ty]
  rw [show Maps.size (DataW.map es : DU) = L.length by have := h2.length_eq; rw [List.length_map] at this; exact this]

end Go.Proofs.YtabolonlkocopaaGreatDoor


/- The small methods of a cover. -/
namespace Go.Proofs.YtabolonlkocopaaGreatDoor
open Go.RowKit Go.Plc

/-- the value of a cover whose maps lie in the blocks b 0 .. b 10 -/
def covA (b : Nat → Nat) : Array Value := #[.map (some (b 0)), .map (some (b 1)), .map (some (b 2)), .map (some (b 3)), .map (some (b 4)), .map (some (b 5)), .map (some (b 6)), .map (some (b 7)), .map (some (b 8)), .map (some (b 9)), .map (some (b 10))]

theorem lvl (l : Int) (h0 : 0 ≤ l) (h1 : l ≤ 10) : l = 0 ∨ l = 1 ∨ l = 2 ∨ l = 3 ∨ l = 4 ∨ l = 5 ∨ l = 6 ∨ l = 7 ∨ l = 8 ∨ l = 9 ∨ l = 10 := by omega
theorem lookQ {b : Nat} {L : List Sq} {w : World} (h : RowAt w b L) {s : Sq} (hs : SqFits s) (n : Nat) :
    Sem.run Tryz.prog (Instr.lookup 52 (.map (some b)) (.agg #[.int .i64 s.l, .int .i64 s.x, .int .i64 s.y]) false) (w.drewN n) = .ok (.bool (decide (s ∈ L))) (w.drewN n) :=
  (h.block (w' := w.drewN n) rfl).look hs
theorem RowAt.alloc {w : World} {b : Nat} {L : List Sq} (h : RowAt w b L) (o : Obj) : RowAt (w.alloc o) b L := h.block (Below.heap_alloc w o b h.lt)

set_option maxHeartbeats 400000 in
theorem hasOne_any (b : Nat → Nat) (s : Sq) (L : List Sq) (w : World) (h : RowAt w (b s.l.toNat) L) (hs : s.okB = true) :
    Calls Tryz.prog 55 #[.agg (covA b), sqv s] w fun e w' => e = .returned (.bool (decide (s ∈ L))) ∧ Below w.heap.size w w' := by
  obtain ⟨h1, h2, _⟩ := (Sq.okB_iff s).1 hs
  have hf := ok_fits hs
  have hq := fun o1 o2 n => lookQ ((h.alloc o1).alloc o2) hf n
  unfold sqv covA
  generalize decide (s ∈ L) = r at *
  clear h hs hf
  obtain ⟨l, x, y⟩ := s
  dsimp only at *
  rcases lvl l h1 h2 with rfl | rfl | rfl | rfl | rfl | rfl | rfl | rfl | rfl | rfl | rfl
  all_goals
    clear h1 h2
    (try simp only [Int.toNat_zero] at hq); (try simp only [Int.reduceToNat] at hq)
    go_enter Tryz.func55, Tryz.ntmps55
    go_wp2_with fail
    go_quiet (fail)
    go_wp2_with fail
    go_ret
    refine ⟨rfl, ?_⟩
    (repeat (first | exact Below.refl _ _ | refine Below.drew ?_ | refine below_drewN ?_ _ | refine Below.alloc ?_ (by simp; try omega) _ | refine Below.setCell ?_ (by simp; try omega) _))

theorem wp_region_tail {P : Program} {id : Nat} {Q : Exit → Act → World → Prop} {a : Act} {w : World} {l : List Oper} (n : Nat) (hm : P.follows .mixedOrders = true) (hB : Region.lexTailB .any l.toArray n = true)
    (h : wpStill P l.toArray w.drew (fun a' => wpList P l.toArray Q (l.drop n) a' w.drew) (l.take n) a) : (Code.region id l.toArray true).wp P Q a w := wp_region_still_tail n hm hB h

/-- Whatever lay when the call began lies as it lay, but for the map in block b. -/
structure But (b : Nat) (w w' : World) : Prop where
  os : w'.os = w.os
  tape : w'.tape = w.tape
  output : w'.output = w.output
  size : w.heap.size ≤ w'.heap.size
  block : ∀ k, k < w.heap.size → k ≠ b → w'.heap[k]? = w.heap[k]?

theorem But.refl (b : Nat) (w : World) : But b w w := ⟨rfl, rfl, rfl, Nat.le_refl _, fun _ _ _ => rfl⟩
theorem But.trans {b : Nat} {x y z : World} (h : But b x y) (k : But b y z) : But b x z :=
  ⟨k.os.trans h.os, k.tape.trans h.tape, k.output.trans h.output, Nat.le_trans h.size k.size, fun i hi hb => (k.block i (Nat.lt_of_lt_of_le hi h.size) hb).trans (h.block i hi hb)⟩
theorem But.of_below {b : Nat} {w w' : World} (h : Below w.heap.size w w') : But b w w' := ⟨h.os, h.tape, h.output, h.size, fun k hk _ => h.block k hk⟩
theorem But.turned {b : Nat} {w w' w'' : World} (h : Below w.heap.size w w') (ht : w'.mapTurned w'' b) : But b w w'' :=
  have g := ht.grown
  ⟨g.os.trans h.os, g.tape.trans h.tape, g.output.trans h.output, Nat.le_trans h.size g.size, fun k hk hb => (g.block k (Nat.lt_of_lt_of_le hk h.size) (by simpa using hb)).trans (h.block k hk)⟩

set_option maxRecDepth 100000 in
set_option maxHeartbeats 400000 in
theorem add_any (b : Nat → Nat) (s : Sq) (L : List Sq) (w : World) (h : RowAt w (b s.l.toNat) L) (hs : s.okB = true) (hlen : L.length < maxLen) :
    Calls Tryz.prog 57 #[.agg (covA b), sqv s] w fun e w' => e = .returned (.tuple #[]) ∧ RowAt w' (b s.l.toNat) (addS L s) ∧ But (b s.l.toNat) w w' := by
  obtain ⟨h1, h2, _⟩ := (Sq.okB_iff s).1 hs
  have hf := ok_fits hs
  obtain ⟨wE, hrun, hrow, hturn⟩ := ((h.alloc (.cells (covA b) 54)).alloc (.cells #[.int .i64 s.l, .int .i64 s.x, .int .i64 s.y] 31)).block (w' := ((w.alloc (.cells (covA b) 54)).alloc (.cells #[.int .i64 s.l, .int .i64 s.x, .int .i64 s.y] 31)).drew) rfl |>.store hf hlen
  have hfin := Lib.hid (show RowAt wE (b s.l.toNat) (addS L s) ∧ But (b s.l.toNat) w wE from ⟨hrow, But.turned (by (repeat (first | exact Below.refl _ _ | refine Below.drew ?_ | refine below_drewN ?_ _ | refine Below.alloc ?_ (by simp; try omega) _ | refine Below.setCell ?_ (by simp; try omega) _))) hturn⟩)
  unfold sqv covA at hrun ⊢
  clear h hrow hturn hs hf hlen
  obtain ⟨l, x, y⟩ := s
  dsimp only at *
  rcases lvl l h1 h2 with rfl | rfl | rfl | rfl | rfl | rfl | rfl | rfl | rfl | rfl | rfl
  all_goals
    clear h1 h2
    (try simp only [Int.toNat_zero] at hrun hfin ⊢); (try simp only [Int.reduceToNat] at hrun hfin ⊢)
    go_enter Tryz.func57, Tryz.ntmps57
    go_wp2_with fail
    refine wp_region_tail 5 (by kernel_rfl) (by kernel_rfl) ?_
    simp only [List.take_succ_cons, List.take_zero, List.drop_succ_cons, List.drop_zero]
    repeat still_step
    refine wpStill_nil ?_
    go_wp2_with fail
    go_end0
    exact ⟨rfl, hfin.out⟩

set_option maxRecDepth 100000 in
set_option maxHeartbeats 400000 in
theorem drop_any (b : Nat → Nat) (s : Sq) (L : List Sq) (w : World) (h : RowAt w (b s.l.toNat) L) (hs : s.okB = true) :
    Calls Tryz.prog 85 #[.agg (covA b), sqv s] w fun e w' => e = .returned (.tuple #[]) ∧ RowAt w' (b s.l.toNat) (dropS L s) ∧ But (b s.l.toNat) w w' := by
  obtain ⟨h1, h2, _⟩ := (Sq.okB_iff s).1 hs
  have hf := ok_fits hs
  obtain ⟨wE, hrun, hrow, hturn⟩ := ((h.alloc (.cells (covA b) 54)).alloc (.cells #[.int .i64 s.l, .int .i64 s.x, .int .i64 s.y] 31)).block (w' := ((w.alloc (.cells (covA b) 54)).alloc (.cells #[.int .i64 s.l, .int .i64 s.x, .int .i64 s.y] 31)).drew) rfl |>.drop hf 0
  have hfin := Lib.hid (show RowAt wE (b s.l.toNat) (dropS L s) ∧ But (b s.l.toNat) w wE from ⟨hrow, But.turned (by (repeat (first | exact Below.refl _ _ | refine Below.drew ?_ | refine below_drewN ?_ _ | refine Below.alloc ?_ (by simp; try omega) _ | refine Below.setCell ?_ (by simp; try omega) _))) hturn⟩)
  unfold sqv covA at hrun ⊢
  clear h hrow hturn hs hf
  obtain ⟨l, x, y⟩ := s
  dsimp only at *
  rcases lvl l h1 h2 with rfl | rfl | rfl | rfl | rfl | rfl | rfl | rfl | rfl | rfl | rfl
  all_goals
    clear h1 h2
    (try simp only [Int.toNat_zero] at hrun hfin ⊢); (try simp only [Int.reduceToNat] at hrun hfin ⊢)
    go_enter Tryz.func85, Tryz.ntmps85
    go_wp2_with fail
    refine wp_region_tail 5 (by kernel_rfl) (by kernel_rfl) ?_
    simp only [List.take_succ_cons, List.take_zero, List.drop_succ_cons, List.drop_zero]
    repeat still_step
    refine wpStill_nil ?_
    go_wp2_with fail
    go_end0
    exact ⟨rfl, hfin.out⟩

end Go.Proofs.YtabolonlkocopaaGreatDoor


/- What makes new memory: the children of a square, the cover of a list. -/
namespace Go.Proofs.YtabolonlkocopaaGreatDoor
open Go.RowKit Go.Plc

/-! children: a new slice of four squares -/
/-- the slice value holds the squares L, in a block from B on -/
def NewSqs (B : Nat) (w : World) (v : Value) (L : List Sq) : Prop :=
  ∃ g c, v = .slice (some ⟨g, 0, none⟩) L.length c ∧ B ≤ g ∧ g < w.heap.size ∧ ∀ (i : Nat) (s : Sq), L[i]? = some s → w.cell? ⟨g, i * 3, none⟩ = some (.int .i64 s.l) ∧ w.cell? ⟨g, i * 3 + 1, none⟩ = some (.int .i64 s.x) ∧ w.cell? ⟨g, i * 3 + 2, none⟩ = some (.int .i64 s.y)

set_option maxHeartbeats 400000 in
theorem children_any (s : Sq) (w : World) (h : s.okB = true) (h0 : 1 ≤ s.l) :
    Calls Tryz.prog 56 #[sqv s] w fun e w' => ∃ v, e = .returned v ∧ NewSqs w.heap.size w' v (kidsS s) ∧ Below w.heap.size w w' := by
  obtain ⟨h1, h2, h3, h4, h5, h6⟩ := (Sq.okB_iff s).1 h
  have hs := side_le s.l h1
  unfold sqv
  go_enter Tryz.func56, Tryz.ntmps56
  go_wp2_with fail
  go_region
  go_wp2_with fail
  go_ret
  refine ⟨_, rfl, ⟨w.heap.size + 1, 4, rfl, by omega, by simp, ?_⟩, by (repeat (first | exact Below.refl _ _ | refine Below.drew ?_ | refine below_drewN ?_ _ | refine Below.alloc ?_ (by simp; try omega) _ | refine Below.setCell ?_ (by simp; try omega) _))⟩
  unfold kidsS
  intro i t hi
  match i, hi with
  | 0, hi => simp at hi; subst hi; simp
  | 1, hi => simp at hi; subst hi; simp
  | 2, hi => simp at hi; subst hi; simp
  | 3, hi => simp at hi; subst hi; simp
end Go.Proofs.YtabolonlkocopaaGreatDoor


/- A cover: eleven maps, a level each; what its methods do, told of the set of squares that it has. -/
namespace Go.Proofs.YtabolonlkocopaaGreatDoor
open Go.RowKit Go.Plc

def lvlOf (C : List Sq) (i : Nat) : List Sq := C.filter fun s => decide (s.l = (i : Int))
structure Cov (w : World) (b : Nat → Nat) (C : List Sq) : Prop where
  row : ∀ i, i < 11 → RowAt w (b i) (lvlOf C i)
  inj : ∀ i j, i < 11 → j < 11 → b i = b j → i = j
  nd : C.Nodup
  ok : ∀ s ∈ C, s.okB = true

/-- Whatever lay when the call began lies as it lay, but for the maps of the cover. -/
structure CBut (b : Nat → Nat) (w w' : World) : Prop where
  os : w'.os = w.os
  tape : w'.tape = w.tape
  output : w'.output = w.output
  size : w.heap.size ≤ w'.heap.size
  block : ∀ k, k < w.heap.size → (∀ i, i < 11 → k ≠ b i) → w'.heap[k]? = w.heap[k]?

theorem CBut.refl (b : Nat → Nat) (w : World) : CBut b w w := ⟨rfl, rfl, rfl, Nat.le_refl _, fun _ _ _ => rfl⟩
theorem CBut.trans {b : Nat → Nat} {x y z : World} (h : CBut b x y) (k : CBut b y z) : CBut b x z :=
  ⟨k.os.trans h.os, k.tape.trans h.tape, k.output.trans h.output, Nat.le_trans h.size k.size, fun i hi hb => (k.block i (Nat.lt_of_lt_of_le hi h.size) hb).trans (h.block i hi hb)⟩
theorem CBut.of_below {b : Nat → Nat} {w w' : World} (h : Below w.heap.size w w') : CBut b w w' := ⟨h.os, h.tape, h.output, h.size, fun k hk _ => h.block k hk⟩
theorem CBut.of_but {b : Nat → Nat} {i : Nat} (hi : i < 11) {w w' : World} (h : But (b i) w w') : CBut b w w' := ⟨h.os, h.tape, h.output, h.size, fun k hk hb => h.block k hk (hb i hi)⟩
theorem CBut.below {b : Nat → Nat} {B : Nat} {w w' : World} (h : CBut b w w') (hB : B ≤ w.heap.size) (hb : ∀ i, i < 11 → B ≤ b i) : Below B w w' :=
  ⟨h.os, h.tape, h.output, h.size, fun k hk => h.block k (Nat.lt_of_lt_of_le hk hB) (fun i hi e => by have := hb i hi; omega)⟩
theorem CBut.heap {b : Nat → Nat} {w w' : World} (h : CBut b w w') {k : Nat} {o : Obj} (hk : w.heap[k]? = some o) (hb : ∀ i, i < 11 → k ≠ b i) : w'.heap[k]? = some o :=
  (h.block k (Array.getElem?_eq_some_iff.1 hk).1 hb).trans hk

theorem ok_lvl {s : Sq} (hs : s.okB = true) : s.l.toNat < 11 ∧ ((s.l.toNat : Nat) : Int) = s.l := by
  obtain ⟨h1, h2, _⟩ := (Sq.okB_iff s).1 hs; omega
theorem mem_lvl {C : List Sq} {s : Sq} {i : Nat} : s ∈ lvlOf C i ↔ s ∈ C ∧ s.l = (i : Int) := by unfold lvlOf; simp
theorem mem_lvl_own {C : List Sq} {s : Sq} (hs : s.okB = true) : decide (s ∈ lvlOf C s.l.toNat) = decide (s ∈ C) := by
  rw [decide_eq_decide, mem_lvl]
  exact ⟨fun h => h.1, fun h => ⟨h, (ok_lvl hs).2.symm⟩⟩
theorem lvl_add_same {C : List Sq} {s : Sq} (hs : s.okB = true) : lvlOf (addS C s) s.l.toNat = addS (lvlOf C s.l.toNat) s := by
  have e := (ok_lvl hs).2
  unfold addS
  by_cases h : s ∈ C
  · rw [if_pos h, if_pos (mem_lvl.2 ⟨h, e.symm⟩)]
  · rw [if_neg h, if_neg (fun h' => h (mem_lvl.1 h').1)]
    unfold lvlOf
    rw [List.filter_append]
    simp [e]
theorem lvl_add_other {C : List Sq} {s : Sq} {i : Nat} (hi : s.l ≠ (i : Int)) : lvlOf (addS C s) i = lvlOf C i := by
  unfold addS
  split
  · rfl
  · unfold lvlOf
    rw [List.filter_append]
    simp [hi]
theorem lvl_drop_same (C : List Sq) (s : Sq) (i : Nat) : lvlOf (dropS C s) i = dropS (lvlOf C i) s := by
  unfold lvlOf dropS
  rw [List.filter_filter, List.filter_filter]
  exact List.filter_congr fun t _ => Bool.and_comm _ _
theorem drop_none {L : List Sq} {s : Sq} (h : s ∉ L) : dropS L s = L := List.filter_eq_self.2 fun t ht => by
  have : t ≠ s := fun e => h (e ▸ ht)
  simp [this]

theorem Cov.keep {w w' : World} {b : Nat → Nat} {C : List Sq} (h : Cov w b C) (hk : ∀ i, i < 11 → w'.heap[b i]? = w.heap[b i]?) : Cov w' b C :=
  ⟨fun i hi => (h.row i hi).block (hk i hi), h.inj, h.nd, h.ok⟩
theorem Cov.lt {w : World} {b : Nat → Nat} {C : List Sq} (h : Cov w b C) : ∀ i, i < 11 → b i < w.heap.size := fun i hi => (h.row i hi).lt
theorem Cov.below {w w' : World} {b : Nat → Nat} {C : List Sq} (h : Cov w b C) (hb : Below w.heap.size w w') : Cov w' b C := h.keep fun i hi => hb.block _ (h.lt i hi)
theorem Cov.alloc {w : World} {b : Nat → Nat} {C : List Sq} (h : Cov w b C) (o : Obj) : Cov (w.alloc o) b C := h.below (below_new o)
theorem Cov.drewN {w : World} {b : Nat → Nat} {C : List Sq} (h : Cov w b C) (n : Nat) : Cov (w.drewN n) b C := h.keep fun _ _ => rfl
theorem Cov.drew {w : World} {b : Nat → Nat} {C : List Sq} (h : Cov w b C) : Cov w.drew b C := h.keep fun _ _ => rfl
theorem Cov.perm {w : World} {b : Nat → Nat} {C C' : List Sq} (h : Cov w b C) (p : C.Perm C') : Cov w b C' :=
  ⟨fun i hi => (h.row i hi).perm (p.filter _), h.inj, p.nodup h.nd, fun s hs => h.ok s (p.mem_iff.2 hs)⟩
theorem addS_nd {C : List Sq} (h : C.Nodup) (s : Sq) : (addS C s).Nodup := addS_nodup h s
theorem addS_len (C : List Sq) (s : Sq) : (addS C s).length ≤ C.length + 1 := by unfold addS; split <;> simp

theorem Cov.added {w w' : World} {b : Nat → Nat} {C : List Sq} (h : Cov w b C) {s : Sq} (hs : s.okB = true) (hr : RowAt w' (b s.l.toNat) (addS (lvlOf C s.l.toNat) s)) (hb : But (b s.l.toNat) w w') : Cov w' b (addS C s) := by
  obtain ⟨h11, he⟩ := ok_lvl hs
  refine ⟨fun i hi => ?_, h.inj, addS_nodup h.nd s, fun t ht => ?_⟩
  · by_cases e : i = s.l.toNat
    · subst e; rw [lvl_add_same hs]; exact hr
    · rw [lvl_add_other (fun e' => e (by omega))]
      exact (h.row i hi).block (hb.block _ (h.lt i hi) (fun e' => e (h.inj _ _ hi h11 e')))
  · rcases mem_addS.1 ht with h' | h'
    · exact h.ok t h'
    · exact h' ▸ hs
theorem Cov.dropped {w w' : World} {b : Nat → Nat} {C : List Sq} (h : Cov w b C) {s : Sq} (hs : s.okB = true) (hr : RowAt w' (b s.l.toNat) (dropS (lvlOf C s.l.toNat) s)) (hb : But (b s.l.toNat) w w') : Cov w' b (dropS C s) := by
  obtain ⟨h11, he⟩ := ok_lvl hs
  refine ⟨fun i hi => ?_, h.inj, h.nd.filter _, fun t ht => h.ok t (List.mem_filter.1 ht).1⟩
  rw [lvl_drop_same]
  by_cases e : i = s.l.toNat
  · subst e; exact hr
  · rw [drop_none (fun hm => e (by have := (mem_lvl.1 hm).2; omega))]
    exact (h.row i hi).block (hb.block _ (h.lt i hi) (fun e' => e (h.inj _ _ hi h11 e')))

/-- is a square one of the cover? -/
def memB (s : Sq) (C : List Sq) : Bool := decide (s ∈ C)
theorem memB_iff {s : Sq} {C : List Sq} : memB s C = true ↔ s ∈ C := by unfold memB; simp
theorem memB_false {s : Sq} {C : List Sq} : memB s C = false ↔ s ∉ C := by unfold memB; simp
theorem hasOne_cov (b : Nat → Nat) (s : Sq) (C : List Sq) (w : World) (h : Cov w b C) (hs : s.okB = true) :
    Calls Tryz.prog 55 #[.agg (covA b), sqv s] w fun e w' => e = .returned (.bool (memB s C)) ∧ Below w.heap.size w w' := by
  have := hasOne_any b s _ w (h.row _ (ok_lvl hs).1) hs
  rwa [mem_lvl_own hs] at this
theorem add_cov (b : Nat → Nat) (s : Sq) (C : List Sq) (w : World) (h : Cov w b C) (hs : s.okB = true) (hlen : C.length < maxLen) :
    Calls Tryz.prog 57 #[.agg (covA b), sqv s] w fun e w' => e = .returned (.tuple #[]) ∧ Cov w' b (addS C s) ∧ CBut b w w' :=
  (add_any b s _ w (h.row _ (ok_lvl hs).1) hs (Nat.lt_of_le_of_lt (List.length_filter_le _ _) hlen)).mono fun _ _ ⟨he, hr, hb⟩ => ⟨he, h.added hs hr hb, CBut.of_but (ok_lvl hs).1 hb⟩
theorem drop_cov (b : Nat → Nat) (s : Sq) (C : List Sq) (w : World) (h : Cov w b C) (hs : s.okB = true) :
    Calls Tryz.prog 85 #[.agg (covA b), sqv s] w fun e w' => e = .returned (.tuple #[]) ∧ Cov w' b (dropS C s) ∧ CBut b w w' :=
  (drop_any b s _ w (h.row _ (ok_lvl hs).1) hs).mono fun _ _ ⟨he, hr, hb⟩ => ⟨he, h.dropped hs hr hb, CBut.of_but (ok_lvl hs).1 hb⟩

/-- from the address on lie the squares L, in memory below block B -/
def SqA (w : World) (B : Nat) (A : Option Addr) (L : List Sq) : Prop :=
  ∀ (i : Nat) (s : Sq), L[i]? = some s → ∃ ad, A = some ad ∧ ad.block < B ∧
    w.cell? (ad.add (i * 3)) = some (.int .i64 s.l) ∧ w.cell? ⟨(ad.add (i * 3)).block, (ad.add (i * 3)).off + 1, none⟩ = some (.int .i64 s.x) ∧ w.cell? ⟨(ad.add (i * 3)).block, (ad.add (i * 3)).off + 2, none⟩ = some (.int .i64 s.y)
/-- the slice value holds the squares L -/
def SqSl (w : World) (B : Nat) (v : Value) (L : List Sq) : Prop := ∃ A c, v = .slice A L.length c ∧ SqA w B A L
theorem add_block (a : Addr) (n : Nat) : (a.add n).block = a.block := by unfold Addr.add; split <;> rfl
theorem SqA.keep {w w' : World} {B : Nat} {A : Option Addr} {L : List Sq} (h : SqA w B A L) (hk : ∀ p : Addr, p.block < B → w'.cell? p = w.cell? p) : SqA w' B A L := by
  intro i s hs
  obtain ⟨ad, ha, hb, h1, h2, h3⟩ := h i s hs
  exact ⟨ad, ha, hb, (hk _ (by rw [add_block]; exact hb)).trans h1, (hk ⟨(ad.add (i * 3)).block, _, none⟩ (by show (ad.add (i * 3)).block < B; rw [add_block]; exact hb)).trans h2, (hk ⟨(ad.add (i * 3)).block, _, none⟩ (by show (ad.add (i * 3)).block < B; rw [add_block]; exact hb)).trans h3⟩
theorem SqA.below {w w' : World} {B : Nat} {A : Option Addr} {L : List Sq} (h : SqA w B A L) (hb : Below B w w') : SqA w' B A L := h.keep fun _ hp => hb.cell hp
theorem SqA.mono {w : World} {B B' : Nat} {A : Option Addr} {L : List Sq} (h : SqA w B A L) (hB : B ≤ B') : SqA w B' A L := by
  intro i s hs
  obtain ⟨ad, ha, hb, h1, h2, h3⟩ := h i s hs
  exact ⟨ad, ha, by omega, h1, h2, h3⟩
theorem SqSl.below {w w' : World} {B : Nat} {v : Value} {L : List Sq} (h : SqSl w B v L) (hb : Below B w w') : SqSl w' B v L := by
  obtain ⟨A, c, hv, h⟩ := h; exact ⟨A, c, hv, h.below hb⟩
theorem SqSl.mono {w : World} {B B' : Nat} {v : Value} {L : List Sq} (h : SqSl w B v L) (hB : B ≤ B') : SqSl w B' v L := by
  obtain ⟨A, c, hv, h⟩ := h; exact ⟨A, c, hv, h.mono hB⟩
/-- the element that a round reads -/
theorem SqA.at_ {w : World} {B : Nat} {A : Option Addr} {L : List Sq} (h : SqA w B A L) {n i : Nat} (hn : L.length = n) (hi : i < n) : ∃ s ad, L[i]? = some s ∧ s ∈ L ∧ A = some ad ∧ ad.block < B ∧
    w.cell? (ad.add (i * 3)) = some (.int .i64 s.l) ∧ w.cell? ⟨(ad.add (i * 3)).block, (ad.add (i * 3)).off + 1, none⟩ = some (.int .i64 s.x) ∧ w.cell? ⟨(ad.add (i * 3)).block, (ad.add (i * 3)).off + 2, none⟩ = some (.int .i64 s.y) := by
  have hl : i < L.length := by omega
  obtain ⟨ad, h'⟩ := h i L[i] (List.getElem?_eq_getElem hl)
  exact ⟨L[i], ad, List.getElem?_eq_getElem hl, List.getElem_mem hl, h'⟩
end Go.Proofs.YtabolonlkocopaaGreatDoor


/- The cover of a list. -/
namespace Go.Proofs.YtabolonlkocopaaGreatDoor
open Go.RowKit Go.Plc

def nilCov : Array Value := #[.map none, .map none, .map none, .map none, .map none, .map none, .map none, .map none, .map none, .map none, .map none]
/-- the blocks of the maps of a cover that is made in a world of z blocks -/
def cb (z : Nat) (i : Nat) : Nat := z + 2 + i
def covWorld (w : World) : World :=
  ((((((((((((w.alloc (.cells nilCov 54)).alloc (.cells (covA (cb w.heap.size)) 54)).alloc (.map #[] 0)).alloc (.map #[] 0)).alloc (.map #[] 0)).alloc (.map #[] 0)).alloc (.map #[] 0)).alloc (.map #[] 0)).alloc (.map #[] 0)).alloc (.map #[] 0)).alloc (.map #[] 0)).alloc (.map #[] 0)).alloc (.map #[] 0)

theorem covWorld_grow (w : World) : covWorld w = Sort.grow w #[.cells nilCov 54, .cells (covA (cb w.heap.size)) 54, .map #[] 0, .map #[] 0, .map #[] 0, .map #[] 0, .map #[] 0, .map #[] 0, .map #[] 0, .map #[] 0, .map #[] 0, .map #[] 0, .map #[] 0] := by
  unfold covWorld
  simp only [Sort.alloc_eq_grow, Sort.grow_grow]
  rfl
theorem grow_at (w : World) (os : Array Obj) (k : Nat) : (Sort.grow w os).heap[w.heap.size + k]? = os[k]? := by
  unfold Sort.grow
  show (w.heap ++ os)[w.heap.size + k]? = _
  rw [Array.getElem?_append_right (by omega)]
  congr 1
  omega
theorem grow_size (w : World) (os : Array Obj) : (Sort.grow w os).heap.size = w.heap.size + os.size := by unfold Sort.grow; simp
theorem grow_below (w : World) (os : Array Obj) : Below w.heap.size w (Sort.grow w os) :=
  ⟨rfl, rfl, rfl, by rw [grow_size]; omega, fun k hk => by
    unfold Sort.grow
    show (w.heap ++ os)[k]? = _
    rw [Array.getElem?_append_left hk]⟩
theorem RowAt.empty {w : World} {b : Nat} (h : w.heap[b]? = some (.map #[] 0)) : RowAt w b [] :=
  ⟨[], ⟨#[], 0, h, ⟨by simp, MapKept.stamped_empty 0, by simp⟩, Nat.le_refl _, rfl⟩, List.Perm.refl _, List.nodup_nil, by simp⟩
theorem covWorld_facts (w : World) : Cov (covWorld w) (cb w.heap.size) [] ∧ (covWorld w).heap[w.heap.size]? = some (.cells nilCov 54) ∧ (covWorld w).heap[w.heap.size + 1]? = some (.cells (covA (cb w.heap.size)) 54) ∧
    Below w.heap.size w (covWorld w) ∧ (covWorld w).heap.size = w.heap.size + 13 := by
  rw [covWorld_grow]
  refine ⟨⟨fun i hi => ?_, fun i j _ _ h => by unfold cb at h; omega, List.nodup_nil, by simp⟩, grow_at w _ 0, grow_at w _ 1, grow_below w _, grow_size w _⟩
  show RowAt _ (w.heap.size + 2 + i) []
  refine RowAt.empty ?_
  rw [Nat.add_assoc, grow_at]
  match i, hi with
  | 0, _ => rfl
  | 1, _ => rfl
  | 2, _ => rfl
  | 3, _ => rfl
  | 4, _ => rfl
  | 5, _ => rfl
  | 6, _ => rfl
  | 7, _ => rfl
  | 8, _ => rfl
  | 9, _ => rfl
  | 10, _ => rfl

theorem cov_cells {w : World} {g : Nat} {b : Nat → Nat} {t : TypeId} {fr : Nat × Nat} (h : w.heap[g]? = some (.cells (covA b) t fr)) :
    w.cell? ⟨g, 0, none⟩ = some (.map (some (b 0))) ∧ w.cell? ⟨g, 1, none⟩ = some (.map (some (b 1))) ∧ w.cell? ⟨g, 2, none⟩ = some (.map (some (b 2))) ∧ w.cell? ⟨g, 3, none⟩ = some (.map (some (b 3))) ∧
    w.cell? ⟨g, 4, none⟩ = some (.map (some (b 4))) ∧ w.cell? ⟨g, 5, none⟩ = some (.map (some (b 5))) ∧ w.cell? ⟨g, 6, none⟩ = some (.map (some (b 6))) ∧ w.cell? ⟨g, 7, none⟩ = some (.map (some (b 7))) ∧
    w.cell? ⟨g, 8, none⟩ = some (.map (some (b 8))) ∧ w.cell? ⟨g, 9, none⟩ = some (.map (some (b 9))) ∧ w.cell? ⟨g, 10, none⟩ = some (.map (some (b 10))) := by
  refine ⟨?_, ?_, ?_, ?_, ?_, ?_, ?_, ?_, ?_, ?_, ?_⟩ <;> exact cell_of_row w g _ (covA b) t fr h
theorem nil_cells {w : World} {g : Nat} {t : TypeId} (h : w.heap[g]? = some (.cells nilCov t)) :
    (w.cell? ⟨g, 0, none⟩ = some (.map none) ∧ w.cell? ⟨g, 1, none⟩ = some (.map none) ∧ w.cell? ⟨g, 2, none⟩ = some (.map none) ∧ w.cell? ⟨g, 3, none⟩ = some (.map none) ∧
    w.cell? ⟨g, 4, none⟩ = some (.map none) ∧ w.cell? ⟨g, 5, none⟩ = some (.map none) ∧ w.cell? ⟨g, 6, none⟩ = some (.map none) ∧ w.cell? ⟨g, 7, none⟩ = some (.map none) ∧
    w.cell? ⟨g, 8, none⟩ = some (.map none) ∧ w.cell? ⟨g, 9, none⟩ = some (.map none) ∧ w.cell? ⟨g, 10, none⟩ = some (.map none)) := by
  refine ⟨?_, ?_, ?_, ?_, ?_, ?_, ?_, ?_, ?_, ?_, ?_⟩ <;> exact cell_of_row w g _ nilCov t (0, 0) h
theorem frozen_row {w : World} {g : Nat} {t : TypeId} {cs : Array Value} (h : w.heap[g]? = some (.cells cs t)) : ∀ i, w.frozen? ⟨g, i, none⟩ = false := fun i => by simp [World.frozen?, h]
theorem Cov.setCell {w : World} {b : Nat → Nat} {C : List Sq} (h : Cov w b C) {a : Addr} (hne : ∀ i, i < 11 → b i ≠ a.block) (u : Value) : Cov (w.setCell a u) b C :=
  h.keep fun i hi => Below.heap_setCell _ _ _ _ (hne i hi)
theorem fold_take {α β : Type} (f : β → α → β) (x : β) (L : List α) (i : Nat) (s : α) (h : L[i]? = some s) : (L.take (i + 1)).foldl f x = f ((L.take i).foldl f x) s := by
  obtain ⟨hi, rfl⟩ := List.getElem?_eq_some_iff.1 h
  rw [List.take_succ_eq_append_getElem hi, List.foldl_append]
  rfl
theorem ofList_len (L : List Sq) : ∀ C : List Sq, (L.foldl addS C).length ≤ C.length + L.length := by
  induction L with
  | nil => simp
  | cons s r ih => intro C; have := ih (addS C s); have := addS_len C s; simp; omega

set_option maxHeartbeats 1000000 in
theorem coverOf_any (v : Value) (L : List Sq) (w : World) (hv : SqSl w w.heap.size v L) (hok : ∀ s ∈ L, s.okB = true) (hn : L.length ≤ 1000000) :
    Calls Tryz.prog 47 #[v] w fun e w' => ∃ b, e = .returned (.agg (covA b)) ∧ (∀ i, i < 11 → w.heap.size ≤ b i) ∧ Cov w' b (L.foldl addS []) ∧ Below w.heap.size w w' := by
  have hmm := @run_makeMap Tryz.prog
  obtain ⟨A, c, rfl, hA⟩ := hv
  have HA := Lib.hid hA
  have HO := Lib.hid hok
  clear hok hA
  generalize hL : L.length = n at *
  have HL := Lib.hid hL
  clear hL
  go_enter Tryz.func47, Tryz.ntmps47
  go_wp2_with fail
  refine wp_loop_rounds 12 ?_
  iterate 12 (rw [rounds_succ]; go_wp2_with fail)
  change Code.wp _ _ _ _ (covWorld w)
  obtain ⟨hcov, hres, hbox, hbel, hsz⟩ := covWorld_facts w
  generalize covWorld w = w0 at *
  have hbge := Lib.hid (show ∀ i, i < 11 → w.heap.size + 2 ≤ cb w.heap.size i from fun i _ => by unfold cb; omega)
  generalize cb w.heap.size = b at *
  have H0 := Lib.hid (show Cov w0 b [] ∧ w0.heap[w.heap.size]? = some (.cells nilCov 54) ∧ w0.heap[w.heap.size + 1]? = some (.cells (covA b) 54) ∧ Below w.heap.size w w0 ∧ w.heap.size + 13 ≤ w0.heap.size from ⟨hcov, hres, hbox, hbel, by omega⟩)
  clear hcov hres hbox hbel hsz hmm
  go_loopw [16] (fun k wr => ∃ i : Nat, k = .int .i64 (i : Int) ∧ i ≤ n ∧ Cov wr b ((L.take i).foldl addS []) ∧ wr.heap[w.heap.size]? = some (.cells nilCov 54) ∧ wr.heap[w.heap.size + 1]? = some (.cells (covA b) 54) ∧ Below w.heap.size w wr ∧ w.heap.size + 13 ≤ wr.heap.size) (fun k _ => n - (intOf k).toNat)
  case atStart => exact ⟨0, rfl, Nat.zero_le _, by simpa using H0.out⟩
  case round =>
    obtain ⟨i, rfl, hin, hR⟩ := hrel
    have HR := Lib.hid hR
    clear hR
    obtain ⟨q0, q1, q2, q3, q4, q5, q6, q7, q8, q9, q10⟩ := cov_cells HR.out.2.2.1
    by_cases hlt : i < n
    · obtain ⟨s, ad, hs, hm, rfl, hb, h1, h2, h3⟩ := (HA.out.below HR.out.2.2.2.1).at_ HL.out hlt
      have HSi := Lib.hid hs
      have HOs := Lib.hid (HO.out s hm)
      clear hs hm
      have hsz : w.heap.size + 13 ≤ wr.heap.size := HR.out.2.2.2.2
      have hsz1 : w.heap.size + 1 < wr.heap.size := by omega
      have hsz0 : w.heap.size < wr.heap.size := by omega
      go_wp2_with fail
      refine (add_cov b s _ _ (HR.out.1.alloc _) HOs.out (Nat.lt_of_le_of_lt (ofList_len _ _) (by rw [List.length_take]; unfold maxLen; simp; omega))).mono ?_
      rintro e w1 ⟨rfl, hcov, hbut⟩
      have H1 := Lib.hid (show Cov w1 b ((L.take (i + 1)).foldl addS []) ∧ w1.heap[w.heap.size]? = some (.cells nilCov 54) ∧ w1.heap[w.heap.size + 1]? = some (.cells (covA b) 54) ∧ Below w.heap.size w w1 ∧ w.heap.size + 13 ≤ w1.heap.size from
        ⟨by rw [fold_take _ _ _ _ _ HSi.out]; exact hcov,
         hbut.heap ((Below.heap_alloc _ _ _ (by omega)).trans HR.out.2.1) (fun j hj e => by have := hbge.out j hj; omega),
         hbut.heap ((Below.heap_alloc _ _ _ (by omega)).trans HR.out.2.2.1) (fun j hj e => by have := hbge.out j hj; omega),
         (HR.out.2.2.2.1.alloc (by omega) _).trans (hbut.below (by simp; omega) (fun j hj => by have := hbge.out j hj; omega)), by have := hbut.size; simp at this; omega⟩)
      clear hcov hbut
      go_wp2_with fail
      go_roundw
      case rel => exact ⟨i + 1, by go_num, by omega, H1.out⟩
      case measure => simp [intOf]; omega
    · have hsz : w.heap.size + 13 ≤ wr.heap.size := HR.out.2.2.2.2
      have hsz1 : w.heap.size + 1 < wr.heap.size := by omega
      have hsz0 : w.heap.size < wr.heap.size := by omega
      obtain ⟨r0, r1, r2, r3, r4, r5, r6, r7, r8, r9, r10⟩ := nil_cells HR.out.2.1
      have hfz := frozen_row HR.out.2.1
      go_wp2_with fail
      refine bodyPost_ret (v := .agg (covA b)) (by unfold covA; simp [results, Tryz.results47, go_sem, r0, r1, r2, r3, r4, r5, r6, r7, r8, r9, r10]) rfl ⟨b, rfl, fun j hj => by have := hbge.out j hj; omega, ?_, ?_⟩
      · have hne : ∀ j, j < 11 → b j ≠ w.heap.size := fun j hj => by have := hbge.out j hj; omega
        have hi : i = L.length := by have := HL.out; omega
        have hc0 := HR.out.1
        rw [hi, List.take_length] at hc0
        iterate 11 (refine Cov.setCell ?_ hne _)
        exact hc0
      · have hb0 := HR.out.2.2.2.1
        iterate 11 (refine Below.setCell (p := ⟨w.heap.size, _, none⟩) ?_ (Nat.le_refl w.heap.size) _)
        exact hb0
end Go.Proofs.YtabolonlkocopaaGreatDoor


/- Methods of a cover that only look: hasAround, covers, leads, size. -/
namespace Go.Proofs.YtabolonlkocopaaGreatDoor
open Go.RowKit Go.Plc

theorem pow_split (a b c : Int) (h1 : a ≤ b) (h2 : b ≤ c) : (2 : Int) ^ (c - a).toNat = 2 ^ (c - b).toNat * 2 ^ (b - a).toNat := by
  rw [← Int.pow_add]; congr 1; omega
theorem blur_ok {s : Sq} (h : s.okB = true) {L : Int} (h1 : s.l ≤ L) (h2 : L ≤ 10) : (blurS s L).okB = true := by
  obtain ⟨a1, a2, a3, a4, a5, a6⟩ := (Sq.okB_iff s).1 h
  have hp : (0 : Int) < 2 ^ (L - s.l).toNat := Int.pow_pos (by decide)
  unfold sideOf at a4 a6
  rw [pow_split s.l L 10 h1 h2] at a4 a6
  refine (Sq.okB_iff _).2 ⟨by show 0 ≤ L; omega, h2, ?_, ?_, ?_, ?_⟩
  · exact Int.ediv_nonneg a3 (by omega)
  · exact Int.ediv_lt_of_lt_mul hp a4
  · exact Int.ediv_nonneg a5 (by omega)
  · exact Int.ediv_lt_of_lt_mul hp a6

theorem hasAround_iff {C : List Sq} {s : Sq} : hasAroundS C s = true ↔ ∃ i : Nat, i < 11 ∧ s.l < (i : Int) ∧ blurS s i ∈ C := by
  unfold hasAroundS
  simp [List.any_eq_true]
/-- the boxes of a method's receiver and of its square -/
structure Boxes (w : World) (g : Nat) (b : Nat → Nat) (s : Sq) (wr : World) : Prop where
  c : wr.heap[g]? = some (.cells (covA b) 54)
  s : wr.heap[g + 1]? = some (.cells #[.int .i64 s.l, .int .i64 s.x, .int .i64 s.y] 31)
  bel : Below g w wr
  sz : g + 2 ≤ wr.heap.size
theorem Boxes.start (w : World) (b : Nat → Nat) (s : Sq) : Boxes w w.heap.size b s ((w.alloc (.cells (covA b) 54)).alloc (.cells #[.int .i64 s.l, .int .i64 s.x, .int .i64 s.y] 31)) := by
  have e : (w.alloc (.cells (covA b) 54)).alloc (.cells #[.int .i64 s.l, .int .i64 s.x, .int .i64 s.y] 31) = Sort.grow w #[.cells (covA b) 54, .cells #[.int .i64 s.l, .int .i64 s.x, .int .i64 s.y] 31] := by
    simp only [Sort.alloc_eq_grow, Sort.grow_grow]; rfl
  rw [e]
  exact ⟨grow_at w _ 0, grow_at w _ 1, grow_below w _, by rw [grow_size]; simp⟩
theorem Boxes.step {w : World} {g : Nat} {b : Nat → Nat} {s : Sq} {wr w1 : World} (h : Boxes w g b s wr) (hb : Below wr.heap.size wr w1) : Boxes w g b s w1 :=
  ⟨(hb.block _ (by have := h.sz; omega)).trans h.c, (hb.block _ (by have := h.sz; omega)).trans h.s, h.bel.trans (hb.mono (by have := h.sz; omega)), Nat.le_trans h.sz hb.size⟩
theorem Boxes.drewN {w : World} {g : Nat} {b : Nat → Nat} {s : Sq} {wr : World} (h : Boxes w g b s wr) (n : Nat) : Boxes w g b s (wr.drewN n) := h.step (below_drewN (Below.refl _ _) n)
theorem sq_cells {w : World} {g : Nat} {s : Sq} {t : TypeId} (h : w.heap[g]? = some (.cells #[.int .i64 s.l, .int .i64 s.x, .int .i64 s.y] t)) :
    w.cell? ⟨g, 0, none⟩ = some (.int .i64 s.l) ∧ w.cell? ⟨g, 1, none⟩ = some (.int .i64 s.x) ∧ w.cell? ⟨g, 2, none⟩ = some (.int .i64 s.y) := by
  refine ⟨?_, ?_, ?_⟩ <;> exact cell_of_row w g _ _ t (0, 0) h

/-- A world in which all that lay in w lies as it lay. -/
structure Wb (w : World) where
  v : World
  h : Below w.heap.size w v
instance wbInhabited (w : World) : Inhabited (Wb w) := ⟨⟨w, Below.refl _ _⟩⟩
theorem wp_region_wb {P : Program} {id : Nat} {Q : Exit → Act → World → Prop} {a : Act} {w : World} {l : List Oper} (hm : P.follows .mixedOrders = true) (hB : Region.lexB .any l.toArray = true)
    (h : wpQuiet P l.toArray (fun w' => ∃ p : Wb w, w' = p.v) (fun a' => ∀ w', (∃ p : Wb w, w' = p.v) → Q .normal a' w') l a) : (Code.region id l.toArray true).wp P Q a w :=
  wp_region_quiet (C := fun w' => ∃ p : Wb w, w' = p.v) hm hB ⟨⟨w.drew, (Below.refl _ _).drew⟩, rfl⟩ (by simpa using h)
theorem Calls.wb {P : Program} {f : FuncId} {args : Array Value} {w : World} {p : Wb w} {v : Value}
    (h : Calls P f args p.v fun e w' => e = .returned v ∧ Below p.v.heap.size p.v w') : Calls P f args p.v fun e w'' => e = .returned v ∧ ∃ q : Wb w, w'' = q.v :=
  h.mono fun _ w' ⟨he, hb⟩ => ⟨he, ⟨w', p.h.trans (hb.mono p.h.size)⟩, rfl⟩
theorem Calls.wb0 {P : Program} {f : FuncId} {args : Array Value} {w : World} {p : Wb w} {v : Value}
    (h : Calls P f args p.v fun e w' => e = .returned v ∧ p.v = w') : Calls P f args p.v fun e w'' => e = .returned v ∧ ∃ q : Wb w, w'' = q.v :=
  h.mono fun _ _ ⟨he, hb⟩ => ⟨he, p, hb.symm⟩
theorem Wb.cell {w : World} {a : Addr} {u : Value} (h : w.cell? a = some u) (p : Wb w) : p.v.cell? a = some u := (p.h.cell (World.block_lt_of_cell? _ _ h)).trans h

set_option maxHeartbeats 1000000 in
theorem hasAround_any (b : Nat → Nat) (s : Sq) (C : List Sq) (w : World) (h : Cov w b C) (hs : s.okB = true) :
    Calls Tryz.prog 48 #[.agg (covA b), sqv s] w fun e w' => e = .returned (.bool (hasAroundS C s)) ∧ Below w.heap.size w w' := by
  obtain ⟨h1, h2, _⟩ := (Sq.okB_iff s).1 hs
  have HB := Lib.hid (Boxes.start w b s)
  have HCv := Lib.hid h
  have HO := Lib.hid hs
  clear h hs
  unfold sqv covA
  go_enter Tryz.func48, Tryz.ntmps48
  go_wp2_with fail
  change Code.wp _ _ _ _ ((w.alloc (.cells (covA b) 54)).alloc (.cells #[.int .i64 s.l, .int .i64 s.x, .int .i64 s.y] 31))
  generalize (w.alloc (.cells (covA b) 54)).alloc (.cells #[.int .i64 s.l, .int .i64 s.x, .int .i64 s.y] 31) = w0 at *
  go_loopw [5] (fun k wr => ∃ j : Int, k = .int .i64 j ∧ s.l < j ∧ j ≤ 11 ∧ (∀ i : Nat, i < 11 → s.l < (i : Int) → (i : Int) < j → blurS s i ∉ C) ∧ Boxes w w.heap.size b s wr) (fun k _ => (11 - intOf k).toNat)
  case atStart => exact ⟨s.l + 1, rfl, by omega, by omega, fun i _ a c => by omega, HB.out⟩
  case round =>
    obtain ⟨j, rfl, hj1, hj2, hno, hR⟩ := hrel
    have HNo := Lib.hid hno
    have HR := Lib.hid hR
    clear hno hR
    obtain ⟨q0, q1, q2, q3, q4, q5, q6, q7, q8, q9, q10⟩ := cov_cells HR.out.c
    obtain ⟨s0, s1, s2⟩ := sq_cells HR.out.s
    by_cases hlt : j ≤ 10
    · have qs := fun p => (⟨Wb.cell q0 p, Wb.cell q1 p, Wb.cell q2 p, Wb.cell q3 p, Wb.cell q4 p, Wb.cell q5 p, Wb.cell q6 p, Wb.cell q7 p, Wb.cell q8 p, Wb.cell q9 p, Wb.cell q10 p⟩ : _ ∧ _ ∧ _ ∧ _ ∧ _ ∧ _ ∧ _ ∧ _ ∧ _ ∧ _ ∧ _)
      have ss := fun p => (⟨Wb.cell s0 p, Wb.cell s1 p, Wb.cell s2 p⟩ : _ ∧ _ ∧ _)
      go_wp2_with fail
      refine wp_region_wb (by kernel_rfl) (by kernel_rfl) ?_; (repeat ((with_reducible refine wpQuiet_step ?_); intro K hK; go_simp; (try (refine ite_neg_of (by simp [undef]) ?_)); first | (with_reducible refine hK _ ?_; clear hK K) | (apply Exists.intro; (with_reducible refine ⟨fun _ => ?_, hK _ ?_⟩); (first | (go_at_call 94; exact Calls.wb (blur_any s j _ (by omega) (by omega) (by omega))) | (go_at_call 55; exact Calls.wb (hasOne_cov b (blurS s j) C _ ((HCv.out.below HR.out.bel).below (Wb.h _)) (blur_ok HO.out (by omega) (by omega))))); clear hK K))); (with_reducible refine wpQuiet_nil ?_); rintro w1 ⟨⟨_, hb1⟩, rfl⟩; (try dsimp only)
      by_cases hit : blurS s j ∈ C
      · have hret := Lib.hid (show hasAroundS C s = true from hasAround_iff.2 ⟨j.toNat, by omega, by omega, by rw [show ((j.toNat : Nat) : Int) = j by omega]; exact hit⟩)
        have hit' : memB (blurS s j) C = true := memB_iff.2 hit
        have hB := Lib.hid (HR.out.step hb1)
        clear hit
        rw [hit']
        clear hit'
        go_wp2_with fail
        go_ret
        exact ⟨ret_b (by rw [hret.out]), hB.out.bel⟩
      · have hit' : memB (blurS s j) C = false := memB_false.2 hit
        have hN := Lib.hid (show ∀ i : Nat, i < 11 → s.l < (i : Int) → (i : Int) < j + 1 → blurS s i ∉ C from fun i a1 a2 a3 => by
          by_cases e : (i : Int) = j
          · rw [e]; exact hit
          · exact HNo.out i a1 a2 (by omega))
        have hB := Lib.hid (HR.out.step hb1)
        clear hit
        rw [hit']
        clear hit'
        go_wp2_with fail
        go_roundw
        case rel => exact ⟨j + 1, rfl, by omega, by omega, hN.out, hB.out⟩
        case measure => simp [intOf]; omega
    · have hret := Lib.hid (show hasAroundS C s = false by
        cases hh : hasAroundS C s
        · rfl
        · obtain ⟨i, a1, a2, a3⟩ := hasAround_iff.1 hh
          exact absurd a3 (HNo.out i a1 a2 (by omega)))
      go_wp2_with fail
      go_ret
      exact ⟨ret_b (by rw [hret.out]), HR.out.bel⟩

end Go.Proofs.YtabolonlkocopaaGreatDoor


/- Methods of a cover that only look: covers, leads, size. -/
namespace Go.Proofs.YtabolonlkocopaaGreatDoor
open Go.RowKit Go.Plc

set_option maxHeartbeats 1000000 in
theorem covers_any (b : Nat → Nat) (s : Sq) (C : List Sq) (w : World) (h : Cov w b C) (hs : s.okB = true) :
    Calls Tryz.prog 54 #[.agg (covA b), sqv s] w fun e w' => e = .returned (.bool (coversS C s)) ∧ Below w.heap.size w w' := by
  have HC := Lib.hid (show coversS C s = (memB s C || hasAroundS C s) from rfl)
  have HB := Lib.hid (Boxes.start w b s)
  have HCv := Lib.hid (show ∀ wr, Boxes w w.heap.size b s wr → Cov wr b C from fun wr hb => h.below hb.bel)
  have HO := Lib.hid hs
  clear h hs
  unfold sqv covA
  go_enter Tryz.func54, Tryz.ntmps54
  go_wp2_with fail
  change Calls _ _ _ ((w.alloc (.cells (covA b) 54)).alloc (.cells #[.int .i64 s.l, .int .i64 s.x, .int .i64 s.y] 31)) _
  generalize (w.alloc (.cells (covA b) 54)).alloc (.cells #[.int .i64 s.l, .int .i64 s.x, .int .i64 s.y] 31) = w0 at *
  refine (hasOne_cov b s C _ (HCv.out _ HB.out) HO.out).mono ?_
  rintro e w1 ⟨rfl, hb1⟩
  have HB1 := Lib.hid (HB.out.step hb1)
  clear hb1
  obtain ⟨q0, q1, q2, q3, q4, q5, q6, q7, q8, q9, q10⟩ := cov_cells HB1.out.c
  obtain ⟨s0, s1, s2⟩ := sq_cells HB1.out.s
  cases hm : memB s C
  · have HM := Lib.hid hm
    clear hm
    go_wp2_with fail
    refine (hasAround_any b s C _ (HCv.out _ HB1.out) HO.out).mono ?_
    rintro e w2 ⟨rfl, hb2⟩
    have HB2 := Lib.hid (HB1.out.step hb2)
    clear hb2
    go_wp2_with fail
    go_ret
    exact ⟨ret_b (by rw [HC.out, HM.out]; rfl), HB2.out.bel⟩
  · have HM := Lib.hid hm
    clear hm
    go_wp2_with fail
    go_ret
    exact ⟨ret_b (by rw [HC.out, HM.out]; rfl), HB1.out.bel⟩

theorem side_down (l : Int) (h0 : 1 ≤ l) (h1 : l ≤ 10) : sideOf (l - 1) = 2 * sideOf l := by
  unfold sideOf
  rw [show (10 - (l - 1)).toNat = (10 - l).toNat + 1 by omega, Int.pow_succ]; omega
theorem kids_ok {p : Sq} (h : p.okB = true) (h1 : 1 ≤ p.l) : ∀ k ∈ kidsS p, k.okB = true := by
  obtain ⟨a1, a2, a3, a4, a5, a6⟩ := (Sq.okB_iff p).1 h
  have hd := side_down p.l h1 a2
  intro k hk
  unfold kidsS at hk
  simp only [List.mem_cons, List.not_mem_nil, or_false] at hk
  rcases hk with rfl | rfl | rfl | rfl <;> refine (Sq.okB_iff _).2 ⟨?_, ?_, ?_, ?_, ?_, ?_⟩ <;> dsimp only <;> (try rw [hd]) <;> omega
theorem par_ok {s : Sq} (h : s.okB = true) (h1 : s.l < 10) : (parS s).okB = true := blur_ok h (by omega) (by omega)
theorem NewSqs.slice {B : Nat} {w : World} {v : Value} {L : List Sq} (h : NewSqs B w v L) : ∃ g c, v = .slice (some ⟨g, 0, none⟩) L.length c ∧ B ≤ g ∧ g < w.heap.size ∧ SqA w w.heap.size (some ⟨g, 0, none⟩) L := by
  obtain ⟨g, c, rfl, hB, hg, hc⟩ := h
  refine ⟨g, c, rfl, hB, hg, fun i s hs => ?_⟩
  obtain ⟨h1, h2, h3⟩ := hc i s hs
  have e : (⟨g, 0, none⟩ : Addr).add (i * 3) = ⟨g, i * 3, none⟩ := by
    unfold Addr.add
    split
    · rename_i h; rw [h]
    · simp
  exact ⟨_, rfl, hg, by rw [e]; exact h1, by rw [e]; exact h2, by rw [e]; exact h3⟩

set_option maxHeartbeats 1000000 in
theorem leads_no (b : Nat → Nat) (s : Sq) (C : List Sq) (w : World) (hs : s.okB = true) (hno : s.l = 10 ∨ s.x % 2 ≠ 0 ∨ s.y % 2 ≠ 0) :
    Calls Tryz.prog 49 #[.agg (covA b), sqv s] w fun e w' => e = .returned (.bool (leadsS C s)) ∧ Below w.heap.size w w' := by
  have HR := Lib.hid (show leadsS C s = false by unfold leadsS; rcases hno with h | h | h <;> simp [h])
  obtain ⟨h1, h2, h3, h4, h5, h6⟩ := (Sq.okB_iff s).1 hs
  clear hs
  unfold sqv covA
  cases a1 : (s.l == 10) <;> cases a2 : (s.x % 2 != 0) <;> cases a3 : (s.y % 2 != 0)
  · simp at a1 a2 a3; omega
  all_goals
    clear hno
    go_enter Tryz.func49, Tryz.ntmps49
    go_wp2_with fail
    go_ret
    exact ⟨ret_b (by rw [HR.out]), by (repeat (first | exact Below.refl _ _ | refine Below.drew ?_ | refine below_drewN ?_ _ | refine Below.alloc ?_ (by simp; try omega) _ | refine Below.setCell ?_ (by simp; try omega) _))⟩

set_option maxHeartbeats 1000000 in
theorem leads_yes (b : Nat → Nat) (s : Sq) (C : List Sq) (w : World) (h : Cov w b C) (hs : s.okB = true) (g1 : s.l < 10) (g2 : s.x % 2 = 0) (g3 : s.y % 2 = 0) :
    Calls Tryz.prog 49 #[.agg (covA b), sqv s] w fun e w' => e = .returned (.bool (leadsS C s)) ∧ Below w.heap.size w w' := by
  have HR := Lib.hid (show leadsS C s = (kidsS (parS s)).all fun k => memB k C by
    unfold leadsS memB
    have : s.l ≠ 10 := by omega
    simp [this, g2, g3])
  have HB := Lib.hid (Boxes.start w b s)
  have HCv := Lib.hid (show ∀ wr, Boxes w w.heap.size b s wr → Cov wr b C from fun wr hb => h.below hb.bel)
  have HP := Lib.hid (par_ok hs g1)
  have HK := Lib.hid (kids_ok (par_ok hs g1) (by show 1 ≤ s.l + 1; have := ((Sq.okB_iff s).1 hs).1; omega))
  obtain ⟨h1, h2, h3, h4, h5, h6⟩ := (Sq.okB_iff s).1 hs
  have a1 : (s.l == 10) = false := by simp; omega
  have a2 : (s.x % 2 != 0) = false := by simp [g2]
  have a3 : (s.y % 2 != 0) = false := by simp [g3]
  clear h hs g2 g3
  unfold sqv covA
  go_enter Tryz.func49, Tryz.ntmps49
  go_wp2_with fail
  change Calls _ _ _ ((w.alloc (.cells (covA b) 54)).alloc (.cells #[.int .i64 s.l, .int .i64 s.x, .int .i64 s.y] 31)) _
  generalize (w.alloc (.cells (covA b) 54)).alloc (.cells #[.int .i64 s.l, .int .i64 s.x, .int .i64 s.y] 31) = w0 at *
  refine (blur_any s (s.l + 1) _ h1 (by omega) (by omega)).mono ?_
  rintro e w1 ⟨rfl, hb1⟩
  have HB1 := Lib.hid (HB.out.step hb1)
  clear hb1
  go_wp2_with fail
  refine (children_any (parS s) _ HP.out (by show 1 ≤ s.l + 1; omega)).mono ?_
  rintro e w2 ⟨v, rfl, hnew, hb2⟩
  have HB2 := Lib.hid (HB1.out.step hb2)
  obtain ⟨g, c, rfl, hg1, hg2, hA⟩ := hnew.slice
  have HA := Lib.hid hA
  clear hb2 hnew hA
  rw [show (kidsS (parS s)).length = 4 from rfl]
  clear hg1 hg2
  generalize (⟨g, 0, none⟩ : Addr) = ad0 at *
  go_wp2_with fail
  go_loopw [29] (fun k wr => ∃ i : Nat, k = .int .i64 (i : Int) ∧ i ≤ 4 ∧ ((kidsS (parS s)).take i).all (fun k => memB k C) = true ∧ Boxes w w.heap.size b s wr ∧ SqA wr wr.heap.size (some ad0) (kidsS (parS s))) (fun k _ => 4 - (intOf k).toNat)
  case atStart => exact ⟨0, rfl, by omega, rfl, HB2.out, HA.out⟩
  case round =>
    obtain ⟨i, rfl, hi, hall, hB, hA⟩ := hrel
    have HAl := Lib.hid hall
    have HBr := Lib.hid hB
    have HAr := Lib.hid hA
    obtain ⟨q0, q1, q2, q3, q4, q5, q6, q7, q8, q9, q10⟩ := cov_cells hB.c
    have hsz := hB.sz
    have hsz1 : w.heap.size + 1 < wr.heap.size := by omega
    have hsz0 : w.heap.size < wr.heap.size := by omega
    clear hall hB hA
    by_cases hlt : i < 4
    · obtain ⟨k, ad, hk, hm, had, hb, c1, c2, c3⟩ := HAr.out.at_ (n := 4) rfl hlt
      injection had with had
      subst had
      have HKi := Lib.hid hk
      have HKo := Lib.hid (HK.out k hm)
      have HT := Lib.hid (show ((kidsS (parS s)).take (i + 1)).all (fun k => memB k C) = memB k C by
        obtain ⟨h', e⟩ := List.getElem?_eq_some_iff.1 hk
        rw [List.take_succ_eq_append_getElem h', List.all_append, HAl.out, e]; simp)
      clear hk hm
      go_wp2_with fail
      refine (hasOne_cov b k C _ ((HCv.out _ HBr.out).alloc _) HKo.out).mono ?_
      rintro e w3 ⟨rfl, hb3⟩
      have HB3 := Lib.hid ((HBr.out.step (below_new _)).step hb3)
      have HA3 := Lib.hid ((HAr.out.below (below_new _)).below (hb3.mono (by simp)) |>.mono (show wr.heap.size ≤ w3.heap.size by have := hb3.size; simp at this; omega))
      clear hb3
      cases hmem : memB k C
      · have HM := Lib.hid hmem
        clear hmem
        go_wp2_with fail
        go_ret
        refine ⟨ret_b ?_, HB3.out.bel⟩
        rw [HR.out]
        symm
        rw [List.all_eq_false]
        exact ⟨k, List.mem_of_getElem? HKi.out, by rw [HM.out]; simp⟩
      · have HM := Lib.hid hmem
        clear hmem
        go_wp2_with fail
        go_roundw
        case rel => exact ⟨i + 1, by go_num, by omega, by rw [HT.out, HM.out], HB3.out, HA3.out⟩
        case measure => simp [intOf]; omega
    · have HE := Lib.hid (show leadsS C s = true by
        rw [HR.out, ← HAl.out, List.take_of_length_le (by show 4 ≤ i; omega)])
      go_wp2_with fail
      go_ret
      exact ⟨ret_b (by rw [HE.out]), HBr.out.bel⟩
end Go.Proofs.YtabolonlkocopaaGreatDoor


/- size and row. -/
namespace Go.Proofs.YtabolonlkocopaaGreatDoor
open Go.RowKit Go.Plc

theorem lvl_sum {C : List Sq} (h : ∀ s ∈ C, s.okB = true) : (lvlOf C 0).length + (lvlOf C 1).length + (lvlOf C 2).length + (lvlOf C 3).length + (lvlOf C 4).length + (lvlOf C 5).length + (lvlOf C 6).length + (lvlOf C 7).length + (lvlOf C 8).length + (lvlOf C 9).length + (lvlOf C 10).length = C.length := by
  induction C with
  | nil => rfl
  | cons s r ih =>
    have ih := ih fun t ht => h t (by simp [ht])
    obtain ⟨h1, h2, _⟩ := (Sq.okB_iff s).1 (h s (by simp))
    have step : ∀ i : Nat, (lvlOf (s :: r) i).length = (lvlOf r i).length + if s.l = (i : Int) then 1 else 0 := fun i => by
      unfold lvlOf; rw [List.filter_cons]; split <;> simp_all
    simp only [step, List.length_cons]
    obtain ⟨l, x, y⟩ := s
    dsimp only at *
    rcases lvl l h1 h2 with rfl | rfl | rfl | rfl | rfl | rfl | rfl | rfl | rfl | rfl | rfl <;> simp <;> omega
theorem lvl_le (C : List Sq) (i : Nat) : (lvlOf C i).length ≤ C.length := List.length_filter_le _ _

theorem covIx0 (b : Nat → Nat) (w : World) : (Instr.index 54 (.agg #[.map (some (b 0)), .map (some (b 1)), .map (some (b 2)), .map (some (b 3)), .map (some (b 4)), .map (some (b 5)), .map (some (b 6)), .map (some (b 7)), .map (some (b 8)), .map (some (b 9)), .map (some (b 10))]) (.int .i64 0)).run Tryz.prog w = .ok (.map (some (b 0))) w := by kernel_rfl
theorem covIx1 (b : Nat → Nat) (w : World) : (Instr.index 54 (.agg #[.map (some (b 0)), .map (some (b 1)), .map (some (b 2)), .map (some (b 3)), .map (some (b 4)), .map (some (b 5)), .map (some (b 6)), .map (some (b 7)), .map (some (b 8)), .map (some (b 9)), .map (some (b 10))]) (.int .i64 1)).run Tryz.prog w = .ok (.map (some (b 1))) w := by kernel_rfl
theorem covIx2 (b : Nat → Nat) (w : World) : (Instr.index 54 (.agg #[.map (some (b 0)), .map (some (b 1)), .map (some (b 2)), .map (some (b 3)), .map (some (b 4)), .map (some (b 5)), .map (some (b 6)), .map (some (b 7)), .map (some (b 8)), .map (some (b 9)), .map (some (b 10))]) (.int .i64 2)).run Tryz.prog w = .ok (.map (some (b 2))) w := by kernel_rfl
theorem covIx3 (b : Nat → Nat) (w : World) : (Instr.index 54 (.agg #[.map (some (b 0)), .map (some (b 1)), .map (some (b 2)), .map (some (b 3)), .map (some (b 4)), .map (some (b 5)), .map (some (b 6)), .map (some (b 7)), .map (some (b 8)), .map (some (b 9)), .map (some (b 10))]) (.int .i64 3)).run Tryz.prog w = .ok (.map (some (b 3))) w := by kernel_rfl
theorem covIx4 (b : Nat → Nat) (w : World) : (Instr.index 54 (.agg #[.map (some (b 0)), .map (some (b 1)), .map (some (b 2)), .map (some (b 3)), .map (some (b 4)), .map (some (b 5)), .map (some (b 6)), .map (some (b 7)), .map (some (b 8)), .map (some (b 9)), .map (some (b 10))]) (.int .i64 4)).run Tryz.prog w = .ok (.map (some (b 4))) w := by kernel_rfl
theorem covIx5 (b : Nat → Nat) (w : World) : (Instr.index 54 (.agg #[.map (some (b 0)), .map (some (b 1)), .map (some (b 2)), .map (some (b 3)), .map (some (b 4)), .map (some (b 5)), .map (some (b 6)), .map (some (b 7)), .map (some (b 8)), .map (some (b 9)), .map (some (b 10))]) (.int .i64 5)).run Tryz.prog w = .ok (.map (some (b 5))) w := by kernel_rfl
theorem covIx6 (b : Nat → Nat) (w : World) : (Instr.index 54 (.agg #[.map (some (b 0)), .map (some (b 1)), .map (some (b 2)), .map (some (b 3)), .map (some (b 4)), .map (some (b 5)), .map (some (b 6)), .map (some (b 7)), .map (some (b 8)), .map (some (b 9)), .map (some (b 10))]) (.int .i64 6)).run Tryz.prog w = .ok (.map (some (b 6))) w := by kernel_rfl
theorem covIx7 (b : Nat → Nat) (w : World) : (Instr.index 54 (.agg #[.map (some (b 0)), .map (some (b 1)), .map (some (b 2)), .map (some (b 3)), .map (some (b 4)), .map (some (b 5)), .map (some (b 6)), .map (some (b 7)), .map (some (b 8)), .map (some (b 9)), .map (some (b 10))]) (.int .i64 7)).run Tryz.prog w = .ok (.map (some (b 7))) w := by kernel_rfl
theorem covIx8 (b : Nat → Nat) (w : World) : (Instr.index 54 (.agg #[.map (some (b 0)), .map (some (b 1)), .map (some (b 2)), .map (some (b 3)), .map (some (b 4)), .map (some (b 5)), .map (some (b 6)), .map (some (b 7)), .map (some (b 8)), .map (some (b 9)), .map (some (b 10))]) (.int .i64 8)).run Tryz.prog w = .ok (.map (some (b 8))) w := by kernel_rfl
theorem covIx9 (b : Nat → Nat) (w : World) : (Instr.index 54 (.agg #[.map (some (b 0)), .map (some (b 1)), .map (some (b 2)), .map (some (b 3)), .map (some (b 4)), .map (some (b 5)), .map (some (b 6)), .map (some (b 7)), .map (some (b 8)), .map (some (b 9)), .map (some (b 10))]) (.int .i64 9)).run Tryz.prog w = .ok (.map (some (b 9))) w := by kernel_rfl
theorem covIx10 (b : Nat → Nat) (w : World) : (Instr.index 54 (.agg #[.map (some (b 0)), .map (some (b 1)), .map (some (b 2)), .map (some (b 3)), .map (some (b 4)), .map (some (b 5)), .map (some (b 6)), .map (some (b 7)), .map (some (b 8)), .map (some (b 9)), .map (some (b 10))]) (.int .i64 10)).run Tryz.prog w = .ok (.map (some (b 10))) w := by kernel_rfl

set_option maxRecDepth 100000 in
set_option maxHeartbeats 2000000 in
theorem size_any (b : Nat → Nat) (C : List Sq) (w : World) (h : Cov w b C) (hn : C.length ≤ 1000000000) :
    Calls Tryz.prog 53 #[.agg (covA b)] w fun e w' => e = .returned (.int .i64 C.length) ∧ Below w.heap.size w w' := by
  have hl := fun (i : Nat) (hi : i < 11) (ty : TypeId) (o : Obj) => ((h.row i hi).alloc o).len ty
  have l0 := hl 0 (by omega); have l1 := hl 1 (by omega); have l2 := hl 2 (by omega); have l3 := hl 3 (by omega); have l4 := hl 4 (by omega); have l5 := hl 5 (by omega)
  have l6 := hl 6 (by omega); have l7 := hl 7 (by omega); have l8 := hl 8 (by omega); have l9 := hl 9 (by omega); have l10 := hl 10 (by omega)
  have hs := lvl_sum h.ok
  have m0 := lvl_le C 0; have m1 := lvl_le C 1; have m2 := lvl_le C 2; have m3 := lvl_le C 3; have m4 := lvl_le C 4; have m5 := lvl_le C 5; have m6 := lvl_le C 6; have m7 := lvl_le C 7; have m8 := lvl_le C 8; have m9 := lvl_le C 9; have m10 := lvl_le C 10
  clear hl h
  generalize C.length = N at *
  generalize (lvlOf C 0).length = n0 at *; generalize (lvlOf C 1).length = n1 at *; generalize (lvlOf C 2).length = n2 at *; generalize (lvlOf C 3).length = n3 at *
  generalize (lvlOf C 4).length = n4 at *; generalize (lvlOf C 5).length = n5 at *; generalize (lvlOf C 6).length = n6 at *; generalize (lvlOf C 7).length = n7 at *
  generalize (lvlOf C 8).length = n8 at *; generalize (lvlOf C 9).length = n9 at *; generalize (lvlOf C 10).length = n10 at *
  have HS := Lib.hid hs
  clear hs
  have x0 := covIx0 b; have x1 := covIx1 b; have x2 := covIx2 b; have x3 := covIx3 b; have x4 := covIx4 b; have x5 := covIx5 b; have x6 := covIx6 b; have x7 := covIx7 b; have x8 := covIx8 b; have x9 := covIx9 b; have x10 := covIx10 b
  unfold covA
  go_enter Tryz.func53, Tryz.ntmps53
  go_wp2_with fail
  refine wp_loop_rounds 12 ?_
  iterate 12 (rw [rounds_succ]; go_wp2_with fail)
  go_outline
  go_ret
  exact ⟨ret_i (by have := HS.out; omega), by (repeat (first | exact Below.refl _ _ | refine Below.drew ?_ | refine below_drewN ?_ _ | refine Below.alloc ?_ (by simp; try omega) _ | refine Below.setCell ?_ (by simp; try omega) _))⟩
end Go.Proofs.YtabolonlkocopaaGreatDoor
