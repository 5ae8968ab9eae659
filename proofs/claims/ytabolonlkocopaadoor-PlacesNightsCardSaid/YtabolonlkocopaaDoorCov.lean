/- A cover: eleven maps, a level each; what its methods do, told of the set of squares that it has. -/
import Derived.Test.YtabolonlkocopaaDoorCovX
namespace Go.Proofs.YtabolonlkocopaaDoor
open Go.RowKit Go.Plc

def lvlOf (C : List Sq) (i : Nat) : List Sq := C.filter fun s => decide (s.l = (i : Int))
structure Cov (w : World) (b : Nat → Nat) (C : List Sq) : Prop where
  row : ∀ i, i < 11 → RowAt w (b i) (lvlOf C i)
  inj : ∀ i j, i < 11 → j < 11 → b i = b j → i = j
  nd : C.Nodup
  ok : ∀ s ∈ C, s.okB = true

/-- Whatever lay when the call began lies as it lay, but for the maps of the cover. -/
structure CBut (b : Nat → Nat) (w w' : World) : Prop where
  os : w'.os = w.os
  tape : w'.tape = w.tape
  output : w'.output = w.output
  size : w.heap.size ≤ w'.heap.size
  block : ∀ k, k < w.heap.size → (∀ i, i < 11 → k ≠ b i) → w'.heap[k]? = w.heap[k]?

theorem CBut.refl (b : Nat → Nat) (w : World) : CBut b w w := ⟨rfl, rfl, rfl, Nat.le_refl _, fun _ _ _ => rfl⟩
theorem CBut.trans {b : Nat → Nat} {x y z : World} (h : CBut b x y) (k : CBut b y z) : CBut b x z :=
  ⟨k.os.trans h.os, k.tape.trans h.tape, k.output.trans h.output, Nat.le_trans h.size k.size, fun i hi hb => (k.block i (Nat.lt_of_lt_of_le hi h.size) hb).trans (h.block i hi hb)⟩
theorem CBut.of_below {b : Nat → Nat} {w w' : World} (h : Below w.heap.size w w') : CBut b w w' := ⟨h.os, h.tape, h.output, h.size, fun k hk _ => h.block k hk⟩
theorem CBut.of_but {b : Nat → Nat} {i : Nat} (hi : i < 11) {w w' : World} (h : But (b i) w w') : CBut b w w' := ⟨h.os, h.tape, h.output, h.size, fun k hk hb => h.block k hk (hb i hi)⟩
theorem CBut.below {b : Nat → Nat} {B : Nat} {w w' : World} (h : CBut b w w') (hB : B ≤ w.heap.size) (hb : ∀ i, i < 11 → B ≤ b i) : Below B w w' :=
  ⟨h.os, h.tape, h.output, h.size, fun k hk => h.block k (Nat.lt_of_lt_of_le hk hB) (fun i hi e => by have := hb i hi; omega)⟩
theorem CBut.heap {b : Nat → Nat} {w w' : World} (h : CBut b w w') {k : Nat} {o : Obj} (hk : w.heap[k]? = some o) (hb : ∀ i, i < 11 → k ≠ b i) : w'.heap[k]? = some o :=
  (h.block k (Array.getElem?_eq_some_iff.1 hk).1 hb).trans hk

theorem ok_lvl {s : Sq} (hs : s.okB = true) : s.l.toNat < 11 ∧ ((s.l.toNat : Nat) : Int) = s.l := by
  obtain ⟨h1, h2, _⟩ := (Sq.okB_iff s).1 hs; omega
theorem mem_lvl {C : List Sq} {s : Sq} {i : Nat} : s ∈ lvlOf C i ↔ s ∈ C ∧ s.l = (i : Int) := by unfold lvlOf; simp
theorem mem_lvl_own {C : List Sq} {s : Sq} (hs : s.okB = true) : decide (s ∈ lvlOf C s.l.toNat) = decide (s ∈ C) := by
  rw [decide_eq_decide, mem_lvl]
  exact ⟨fun h => h.1, fun h => ⟨h, (ok_lvl hs).2.symm⟩⟩
theorem lvl_add_same {C : List Sq} {s : Sq} (hs : s.okB = true) : lvlOf (addS C s) s.l.toNat = addS (lvlOf C s.l.toNat) s := by
  have e := (ok_lvl hs).2
  unfold addS
  by_cases h : s ∈ C
  · rw [if_pos h, if_pos (mem_lvl.2 ⟨h, e.symm⟩)]
  · rw [if_neg h, if_neg (fun h' => h (mem_lvl.1 h').1)]
    unfold lvlOf
    rw [List.filter_append]
    simp [e]
theorem lvl_add_other {C : List Sq} {s : Sq} {i : Nat} (hi : s.l ≠ (i : Int)) : lvlOf (addS C s) i = lvlOf C i := by
  unfold addS
  split
  · rfl
  · unfold lvlOf
    rw [List.filter_append]
    simp [hi]
theorem lvl_drop_same (C : List Sq) (s : Sq) (i : Nat) : lvlOf (dropS C s) i = dropS (lvlOf C i) s := by
  unfold lvlOf dropS
  rw [List.filter_filter, List.filter_filter]
  exact List.filter_congr fun t _ => Bool.and_comm _ _
theorem drop_none {L : List Sq} {s : Sq} (h : s ∉ L) : dropS L s = L := List.filter_eq_self.2 fun t ht => by
  have : t ≠ s := fun e => h (e ▸ ht)
  simp [this]

theorem Cov.keep {w w' : World} {b : Nat → Nat} {C : List Sq} (h : Cov w b C) (hk : ∀ i, i < 11 → w'.heap[b i]? = w.heap[b i]?) : Cov w' b C :=
  ⟨fun i hi => (h.row i hi).block (hk i hi), h.inj, h.nd, h.ok⟩
theorem Cov.lt {w : World} {b : Nat → Nat} {C : List Sq} (h : Cov w b C) : ∀ i, i < 11 → b i < w.heap.size := fun i hi => (h.row i hi).lt
theorem Cov.below {w w' : World} {b : Nat → Nat} {C : List Sq} (h : Cov w b C) (hb : Below w.heap.size w w') : Cov w' b C := h.keep fun i hi => hb.block _ (h.lt i hi)
theorem Cov.alloc {w : World} {b : Nat → Nat} {C : List Sq} (h : Cov w b C) (o : Obj) : Cov (w.alloc o) b C := h.below (below_new o)
theorem Cov.drewN {w : World} {b : Nat → Nat} {C : List Sq} (h : Cov w b C) (n : Nat) : Cov (w.drewN n) b C := h.keep fun _ _ => rfl
theorem Cov.drew {w : World} {b : Nat → Nat} {C : List Sq} (h : Cov w b C) : Cov w.drew b C := h.keep fun _ _ => rfl
theorem Cov.perm {w : World} {b : Nat → Nat} {C C' : List Sq} (h : Cov w b C) (p : C.Perm C') : Cov w b C' :=
  ⟨fun i hi => (h.row i hi).perm (p.filter _), h.inj, p.nodup h.nd, fun s hs => h.ok s (p.mem_iff.2 hs)⟩
theorem addS_nd {C : List Sq} (h : C.Nodup) (s : Sq) : (addS C s).Nodup := addS_nodup h s
theorem addS_len (C : List Sq) (s : Sq) : (addS C s).length ≤ C.length + 1 := by unfold addS; split <;> simp

theorem Cov.added {w w' : World} {b : Nat → Nat} {C : List Sq} (h : Cov w b C) {s : Sq} (hs : s.okB = true) (hr : RowAt w' (b s.l.toNat) (addS (lvlOf C s.l.toNat) s)) (hb : But (b s.l.toNat) w w') : Cov w' b (addS C s) := by
  obtain ⟨h11, he⟩ := ok_lvl hs
  refine ⟨fun i hi => ?_, h.inj, addS_nodup h.nd s, fun t ht => ?_⟩
  · by_cases e : i = s.l.toNat
    · subst e; rw [lvl_add_same hs]; exact hr
    · rw [lvl_add_other (fun e' => e (by omega))]
      exact (h.row i hi).block (hb.block _ (h.lt i hi) (fun e' => e (h.inj _ _ hi h11 e')))
  · rcases mem_addS.1 ht with h' | h'
    · exact h.ok t h'
    · exact h' ▸ hs
theorem Cov.dropped {w w' : World} {b : Nat → Nat} {C : List Sq} (h : Cov w b C) {s : Sq} (hs : s.okB = true) (hr : RowAt w' (b s.l.toNat) (dropS (lvlOf C s.l.toNat) s)) (hb : But (b s.l.toNat) w w') : Cov w' b (dropS C s) := by
  obtain ⟨h11, he⟩ := ok_lvl hs
  refine ⟨fun i hi => ?_, h.inj, h.nd.filter _, fun t ht => h.ok t (List.mem_filter.1 ht).1⟩
  rw [lvl_drop_same]
  by_cases e : i = s.l.toNat
  · subst e; exact hr
  · rw [drop_none (fun hm => e (by have := (mem_lvl.1 hm).2; omega))]
    exact (h.row i hi).block (hb.block _ (h.lt i hi) (fun e' => e (h.inj _ _ hi h11 e')))

/-- is a square one of the cover? -/
def memB (s : Sq) (C : List Sq) : Bool := decide (s ∈ C)
theorem memB_iff {s : Sq} {C : List Sq} : memB s C = true ↔ s ∈ C := by unfold memB; simp
theorem memB_false {s : Sq} {C : List Sq} : memB s C = false ↔ s ∉ C := by unfold memB; simp
theorem hasOne_cov (b : Nat → Nat) (s : Sq) (C : List Sq) (w : World) (h : Cov w b C) (hs : s.okB = true) :
    Calls Tryd.prog 84 #[.agg (covA b), sqv s] w fun e w' => e = .returned (.bool (memB s C)) ∧ Below w.heap.size w w' := by
  have := hasOne_any b s _ w (h.row _ (ok_lvl hs).1) hs
  rwa [mem_lvl_own hs] at this
theorem add_cov (b : Nat → Nat) (s : Sq) (C : List Sq) (w : World) (h : Cov w b C) (hs : s.okB = true) (hlen : C.length < maxLen) :
    Calls Tryd.prog 85 #[.agg (covA b), sqv s] w fun e w' => e = .returned (.tuple #[]) ∧ Cov w' b (addS C s) ∧ CBut b w w' :=
  (add_any b s _ w (h.row _ (ok_lvl hs).1) hs (Nat.lt_of_le_of_lt (List.length_filter_le _ _) hlen)).mono fun _ _ ⟨he, hr, hb⟩ => ⟨he, h.added hs hr hb, CBut.of_but (ok_lvl hs).1 hb⟩
theorem drop_cov (b : Nat → Nat) (s : Sq) (C : List Sq) (w : World) (h : Cov w b C) (hs : s.okB = true) :
    Calls Tryd.prog 96 #[.agg (covA b), sqv s] w fun e w' => e = .returned (.tuple #[]) ∧ Cov w' b (dropS C s) ∧ CBut b w w' :=
  (drop_any b s _ w (h.row _ (ok_lvl hs).1) hs).mono fun _ _ ⟨he, hr, hb⟩ => ⟨he, h.dropped hs hr hb, CBut.of_but (ok_lvl hs).1 hb⟩

/-- from the address on lie the squares L, in memory below block B -/
def SqA (w : World) (B : Nat) (A : Option Addr) (L : List Sq) : Prop :=
  ∀ (i : Nat) (s : Sq), L[i]? = some s → ∃ ad, A = some ad ∧ ad.block < B ∧
    w.cell? (ad.add (i * 3)) = some (.int .i64 s.l) ∧ w.cell? ⟨(ad.add (i * 3)).block, (ad.add (i * 3)).off + 1, none⟩ = some (.int .i64 s.x) ∧ w.cell? ⟨(ad.add (i * 3)).block, (ad.add (i * 3)).off + 2, none⟩ = some (.int .i64 s.y)
/-- the slice value holds the squares L -/
def SqSl (w : World) (B : Nat) (v : Value) (L : List Sq) : Prop := ∃ A c, v = .slice A L.length c ∧ SqA w B A L
theorem add_block (a : Addr) (n : Nat) : (a.add n).block = a.block := by unfold Addr.add; split <;> rfl
theorem SqA.keep {w w' : World} {B : Nat} {A : Option Addr} {L : List Sq} (h : SqA w B A L) (hk : ∀ p : Addr, p.block < B → w'.cell? p = w.cell? p) : SqA w' B A L := by
  intro i s hs
  obtain ⟨ad, ha, hb, h1, h2, h3⟩ := h i s hs
  exact ⟨ad, ha, hb, (hk _ (by rw [add_block]; exact hb)).trans h1, (hk ⟨(ad.add (i * 3)).block, _, none⟩ (by show (ad.add (i * 3)).block < B; rw [add_block]; exact hb)).trans h2, (hk ⟨(ad.add (i * 3)).block, _, none⟩ (by show (ad.add (i * 3)).block < B; rw [add_block]; exact hb)).trans h3⟩
theorem SqA.below {w w' : World} {B : Nat} {A : Option Addr} {L : List Sq} (h : SqA w B A L) (hb : Below B w w') : SqA w' B A L := h.keep fun _ hp => hb.cell hp
theorem SqA.mono {w : World} {B B' : Nat} {A : Option Addr} {L : List Sq} (h : SqA w B A L) (hB : B ≤ B') : SqA w B' A L := by
  intro i s hs
  obtain ⟨ad, ha, hb, h1, h2, h3⟩ := h i s hs
  exact ⟨ad, ha, by omega, h1, h2, h3⟩
theorem SqSl.below {w w' : World} {B : Nat} {v : Value} {L : List Sq} (h : SqSl w B v L) (hb : Below B w w') : SqSl w' B v L := by
  obtain ⟨A, c, hv, h⟩ := h; exact ⟨A, c, hv, h.below hb⟩
theorem SqSl.mono {w : World} {B B' : Nat} {v : Value} {L : List Sq} (h : SqSl w B v L) (hB : B ≤ B') : SqSl w B' v L := by
  obtain ⟨A, c, hv, h⟩ := h; exact ⟨A, c, hv, h.mono hB⟩
/-- the element that a round reads -/
theorem SqA.at_ {w : World} {B : Nat} {A : Option Addr} {L : List Sq} (h : SqA w B A L) {n i : Nat} (hn : L.length = n) (hi : i < n) : ∃ s ad, L[i]? = some s ∧ s ∈ L ∧ A = some ad ∧ ad.block < B ∧
    w.cell? (ad.add (i * 3)) = some (.int .i64 s.l) ∧ w.cell? ⟨(ad.add (i * 3)).block, (ad.add (i * 3)).off + 1, none⟩ = some (.int .i64 s.x) ∧ w.cell? ⟨(ad.add (i * 3)).block, (ad.add (i * 3)).off + 2, none⟩ = some (.int .i64 s.y) := by
  have hl : i < L.length := by omega
  obtain ⟨ad, h'⟩ := h i L[i] (List.getElem?_eq_getElem hl)
  exact ⟨L[i], ad, List.getElem?_eq_getElem hl, List.getElem_mem hl, h'⟩
end Go.Proofs.YtabolonlkocopaaDoor
