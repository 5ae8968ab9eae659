/- The squares of a level: the iterator that ranges over another one. -/
import Derived.Test.YtabolonlkocopaaDoorPc
import Derived.Test.YtabolonlkocopaaDoorRanO
import Derived.Test.YtabolonlkocopaaDoorTail
namespace Go.Proofs.YtabolonlkocopaaDoor
open Go.RowKit Go.Plc Go.Shelf
attribute [local go_sem] Oper.semAt_some

def lvlStep (L : Int) (s : Sq) : List Sq := if s.l ≤ L then [blurS s L] else piecesS s L
def lvlTo (l : List Sq) (L : Int) (i : Nat) : List Sq := (l.take i).flatMap (lvlStep L)
def atLevelS (l : List Sq) (L : Int) : List Sq := l.flatMap (lvlStep L)
theorem lvlTo_succ {l : List Sq} {L : Int} {i : Nat} {s : Sq} (h : l[i]? = some s) : lvlTo l L (i + 1) = lvlTo l L i ++ lvlStep L s := by
  unfold lvlTo; rw [List.take_add_one, h, List.flatMap_append]; simp
theorem lvlTo_pre (l : List Sq) (L : Int) (i : Nat) : lvlTo l L i <+: atLevelS l L := by
  unfold lvlTo atLevelS
  obtain ⟨t, ht⟩ := List.take_prefix i l
  refine ⟨t.flatMap (lvlStep L), ?_⟩
  rw [← List.flatMap_append, ht]

theorem pieces_any (s : Sq) (L : Int) (w : World) :
    Calls Tryd.prog 102 #[sqv s, .int .i64 L] w fun e w' => e = .returned (.func (.func 110) #[] #[.pointer (some ⟨w.heap.size, 0, none⟩), .pointer (some ⟨w.heap.size + 1, 0, none⟩)]) ∧ w' = (w.alloc (.cells #[.int .i64 s.l, .int .i64 s.x, .int .i64 s.y] 23)).alloc (.cells #[.int .i64 L] 3) := by
  unfold sqv
  go_enter Tryd.func102, Tryd.ntmps102
  go_wp2_with fail
  go_ret
  exact ⟨by simp, rfl⟩
theorem atLevel_any (v : Value) (L : Int) (w : World) (hv : ∃ A n c, v = .slice A n c) :
    Calls Tryd.prog 88 #[v, .int .i64 L] w fun e w' => e = .returned (.func (.func 101) #[] #[.pointer (some ⟨w.heap.size, 0, none⟩), .pointer (some ⟨w.heap.size + 1, 0, none⟩)]) ∧ w' = (w.alloc (.cells #[v] 27)).alloc (.cells #[.int .i64 L] 3) := by
  obtain ⟨A, n, c, rfl⟩ := hv
  go_enter Tryd.func88, Tryd.ntmps88
  go_wp2_with fail
  go_ret
  exact ⟨by simp, rfl⟩

theorem arr32 {t : Array Value} (h : t.size = 32) : ∃ f : Nat → Value, t = #[f 0, f 1, f 2, f 3, f 4, f 5, f 6, f 7, f 8, f 9, f 10, f 11, f 12, f 13, f 14, f 15, f 16, f 17, f 18, f 19, f 20, f 21, f 22, f 23, f 24, f 25, f 26, f 27, f 28, f 29, f 30, f 31] := by
  refine ⟨fun k => t.getD k undef, ?_⟩
  apply Array.ext
  · simpa using h
  · intro i h1 h2
    have : i < 32 := by omega
    have hi : i = 0 ∨ i = 1 ∨ i = 2 ∨ i = 3 ∨ i = 4 ∨ i = 5 ∨ i = 6 ∨ i = 7 ∨ i = 8 ∨ i = 9 ∨ i = 10 ∨ i = 11 ∨ i = 12 ∨ i = 13 ∨ i = 14 ∨ i = 15 ∨ i = 16 ∨ i = 17 ∨ i = 18 ∨ i = 19 ∨ i = 20 ∨ i = 21 ∨ i = 22 ∨ i = 23 ∨ i = 24 ∨ i = 25 ∨ i = 26 ∨ i = 27 ∨ i = 28 ∨ i = 29 ∨ i = 30 ∨ i = 31 := by omega
    rcases hi with rfl | rfl | rfl | rfl | rfl | rfl | rfl | rfl | rfl | rfl | rfl | rfl | rfl | rfl | rfl | rfl | rfl | rfl | rfl | rfl | rfl | rfl | rfl | rfl | rfl | rfl | rfl | rfl | rfl | rfl | rfl | rfl <;> simp [Array.getD, h]

def markOf (D : Nat) : Deferred := { target := .collected D, args := #[] }
theorem leaves_marks {P : Program} {fn : Func} {n B : Nat} {tmps : Array Value} {R : Ending → World → Prop} {Q : World → Prop} (hQ : ∀ X D, Q X → B ≤ D → X.heap[D]? = some (.deferred (some [])) → Q (X.putObj D (.deferred none)))
    (hfin : ∀ X, Q X → LeavesInM Fence.wide n P fn tmps R [] .returning X) : ∀ (Ds : List Nat) (X : World), Q X → Ds.Nodup → (∀ D ∈ Ds, B ≤ D ∧ X.heap[D]? = some (.deferred (some []))) → LeavesInM Fence.wide n P fn tmps R (Ds.map markOf) .returning X
  | [], X, h, _, _ => hfin X h
  | D :: Ds, X, h, hn, hd => by
    obtain ⟨h1, h2⟩ := hd D List.mem_cons_self
    refine ⟨by simp, .inl ⟨D, _, rfl, run_takeDeferred h2, leaves_marks hQ hfin Ds _ (hQ X D h h1 h2) (List.nodup_cons.1 hn).2 fun E hE => ?_⟩⟩
    obtain ⟨h3, h4⟩ := hd E (List.mem_cons_of_mem _ hE)
    refine ⟨h3, (World.putObj_heap_other (fun e => ?_)).trans h4⟩
    subst e
    exact (List.nodup_cons.1 hn).1 hE
end Go.Proofs.YtabolonlkocopaaDoor
