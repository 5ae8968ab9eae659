
/- Lists of numbers in memory; merge, replace, search; books. -/
import Derived.Test.YtplpogonkfnafaaGreatProg
import Derived.WalkKit
import Derived.WalkSpells
import Derived.WalkLawsBesides
import Derived.Deep.QuietTactic
import Derived.BigQuiet
import Derived.IntWalk
import Derived.Outline
import Derived.Lib.Hide
import Derived.Laws.OwnMore
import Derived.WalkMore
import Derived.Deep.LoopGhost
import Derived.Laws.AppendOwn
import Derived.Maps.AppendAt
import Derived.OwnWalk
import Derived.Test.YtplpogonkfnafaaGreatNmM
import Derived.RangeFuncBox
import Derived.Test.YtplpogonkfnafaaGreatRows
import Derived.Lib.SmallJoins
import Derived.Deep.Slices
import Derived.Deep.Fields
import Derived.ChangeSame
import Derived.ChangeSlices
import Derived.Carry
import Derived.OpenShut
import Derived.ProofKit
import Derived.JoinedOf
import Derived.Handed
namespace Go.Proofs.YtplpogonkfnafaaGreat
open Go.RowKit Go.Nm

theorem ret_b {a b : Bool} (h : a = b) : Ending.returned (.bool a) = .returned (.bool b) := by rw [h]
theorem ret_i {k : IntKind} {a b : Int} (h : a = b) : Ending.returned (.int k a) = .returned (.int k b) := by rw [h]
theorem ite_neg_of {c : Prop} [Decidable c] {a b : Prop} (hn : ¬ c) (hb : b) : if c then a else b := by rw [if_neg hn]; exact hb
theorem below_new {w : World} (o : Obj) : Below w.heap.size w (w.alloc o) := (Below.refl _ _).alloc (Nat.le_refl _) _
theorem below_drewN {B : Nat} {a w : World} (h : Below B a w) (n : Nat) : Below B a (w.drewN n) := ⟨h.os, h.tape, h.output, h.size, h.block⟩
theorem add_block (a : Addr) (n : Nat) : (a.add n).block = a.block := by unfold Addr.add; split <;> rfl
theorem add_addN (a : Addr) (i j : Nat) : (a.add i).add j = a.add (i + j) := by
  unfold Addr.add
  by_cases hi : i = 0 <;> by_cases hj : j = 0 <;> simp [hi, hj, Nat.add_assoc]

structure Wb (w : World) where
  v : World
  h : Below w.heap.size w v
instance wbInhabited (w : World) : Inhabited (Wb w) := ⟨⟨w, Below.refl _ _⟩⟩
theorem wp_region_wb {P : Program} {id : Nat} {Q : Exit → Act → World → Prop} {a : Act} {w : World} {l : List Oper} (hm : P.follows .mixedOrders = true) (hB : Region.lexB .any l.toArray = true)
    (h : wpQuiet P l.toArray (fun w' => ∃ p : Wb w, w' = p.v) (fun a' => ∀ w', (∃ p : Wb w, w' = p.v) → Q .normal a' w') l a) : (Code.region id l.toArray true).wp P Q a w :=
  wp_region_quiet (C := fun w' => ∃ p : Wb w, w' = p.v) hm hB ⟨⟨w.drew, (Below.refl _ _).drew⟩, rfl⟩ (by simpa using h)
theorem Calls.wb {P : Program} {f : FuncId} {args : Array Value} {w : World} {p : Wb w} {v : Value}
    (h : Calls P f args p.v fun e w' => e = .returned v ∧ Below p.v.heap.size p.v w') : Calls P f args p.v fun e w'' => e = .returned v ∧ ∃ q : Wb w, w'' = q.v :=
  h.mono fun _ w' ⟨he, hb⟩ => ⟨he, ⟨w', p.h.trans (hb.mono p.h.size)⟩, rfl⟩
theorem Calls.wb0 {P : Program} {f : FuncId} {args : Array Value} {w : World} {p : Wb w} {v : Value}
    (h : Calls P f args p.v fun e w' => e = .returned v ∧ p.v = w') : Calls P f args p.v fun e w'' => e = .returned v ∧ ∃ q : Wb w, w'' = q.v :=
  h.mono fun _ _ ⟨he, hb⟩ => ⟨he, p, hb.symm⟩
theorem Wb.cell {w : World} {a : Addr} {u : Value} (h : w.cell? a = some u) (p : Wb w) : p.v.cell? a = some u := (p.h.cell (World.block_lt_of_cell? _ _ h)).trans h


def intsV (L : List Int) : List Value := L.map (.int .i64)
theorem intsV_len (L : List Int) : (intsV L).length = L.length := by simp [intsV]
theorem intsV_append (a b : List Int) : intsV (a ++ b) = intsV a ++ intsV b := by simp [intsV]
theorem intsV_one (L : List Int) : ∀ u ∈ intsV L, u.oneCell' = true := by
  intro u hu
  obtain ⟨x, _, rfl⟩ := List.mem_map.1 hu
  rfl
theorem infoInt : (Tryz.prog.info? 3).map (fun i => (i.zero, i.size, i.bytes)) = some (some (.int .i64 0), 1, 8) := by kernel_rfl
theorem infoI : ∃ i, Tryz.prog.info? 3 = some i ∧ i.zero = some (.int .i64 0) ∧ i.size = 1 ∧ i.bytes = 8 := by
  have h := infoInt
  cases h2 : Tryz.prog.info? 3 with
  | none => rw [h2] at h; cases h
  | some i =>
    rw [h2] at h
    simp only [Option.map_some, Option.some.injEq, Prod.mk.injEq] at h
    exact ⟨i, rfl, h.1, h.2.1, h.2.2⟩

theorem run_append_nil {P : Program} {w : World} (base : Nat) (t ty e : TypeId) (i : TypeInfo) (size c : Nat) (ht : P.underlying t = some (.slice e)) (hi : P.info? e = some i)
    (v : Value) (n : Nat) (xs : List Value) (hown : w.ownsRow base e size v n xs) :
    (Builtin.append_ #[t, t] ty #[v, .slice none 0 c]).run P w = .ok v w := by
  rcases hown.2 with ⟨rfl, rfl⟩ | ⟨g, cap, cur, rfl, _, _, hnc, _⟩
  · simp [Builtin.append_, run_underlying ht, Go.sizeOf, typeInfo, hi, Builtin.lenOf, Builtin.firstCells]
  · simp [Builtin.append_, run_underlying ht, Go.sizeOf, typeInfo, hi, Builtin.lenOf, Builtin.firstCells, hnc, storeCells]
theorem wpList_append_nil {P : Program} {w : World} {ops : Array Oper} {rest : List Oper} {o : Oper} {a : Act} {Q : Exit → Act → World → Prop} (hgd : o.guard = none) (s x : Operand) (t : TypeId)
    (ho : o.op = .call { callee := .builtin .append, args := #[s, x], argTypes := #[t, t] })
    (base : Nat) (e : TypeId) (i : TypeInfo) (size c : Nat) (ht : P.underlying t = some (.slice e)) (hi : P.info? e = some i)
    (v : Value) (n : Nat) (xs : List Value) (hs : a.eval s = v) (hown : w.ownsRow base e size v n xs) (hx : a.eval x = .slice none 0 c)
    (h : wpList P ops Q rest (a.put o.dst v) w) : wpList P ops Q (o :: rest) a w := by
  refine wpList_plain hgd fun K hK => ?_
  have hrun := run_append_nil (P := P) (w := w) base t o.type e i size c ht hi v n xs hown
  unfold Oper.wp
  simp [execOp, ho, resolve, invoke, builtin, hs, hx, hrun, Result.andThen]
  exact hK _ _ h

/-- from the address on lie the numbers L, in memory below block B -/
def InA (w : World) (B : Nat) (A : Option Addr) (L : List Int) : Prop :=
  ∀ (i : Nat) (x : Int), L[i]? = some x → ∃ ad, A = some ad ∧ ad.block < B ∧ w.cell? (ad.add i) = some (.int .i64 x)
/-- the slice value holds the numbers L -/
def InSl (w : World) (B : Nat) (v : Value) (L : List Int) : Prop := ∃ A c, v = .slice A L.length c ∧ L.length ≤ c ∧ c ≤ maxLen ∧ InA w B A L
section
variable {w w' : World} {B B' : Nat} {A : Option Addr} {L : List Int} {v : Value}
theorem InA.keep (h : InA w B A L) (hk : ∀ p : Addr, p.block < B → w'.cell? p = w.cell? p) : InA w' B A L := by
  intro i x hx
  obtain ⟨ad, ha, hb, h1⟩ := h i x hx
  exact ⟨ad, ha, hb, (hk _ (by rw [add_block]; exact hb)).trans h1⟩
theorem InA.below (h : InA w B A L) (hb : Below B w w') : InA w' B A L := h.keep fun _ hp => hb.cell hp
theorem InA.mono (h : InA w B A L) (hB : B ≤ B') : InA w B' A L := fun i x hx => by
  obtain ⟨ad, ha, hb, h1⟩ := h i x hx
  exact ⟨ad, ha, by omega, h1⟩
theorem InA.nil (w : World) (B : Nat) (A : Option Addr) : InA w B A [] := fun i x h => by simp at h
theorem InSl.below (h : InSl w B v L) (hb : Below B w w') : InSl w' B v L := by
  obtain ⟨A, c, e, h1, h2, h⟩ := h; exact ⟨A, c, e, h1, h2, h.below hb⟩
theorem InSl.mono (h : InSl w B v L) (hB : B ≤ B') : InSl w B' v L := by
  obtain ⟨A, c, e, h1, h2, h⟩ := h; exact ⟨A, c, e, h1, h2, h.mono hB⟩
theorem InSl.step (h : InSl w w.heap.size v L) (hb : Below w.heap.size w w') : InSl w' w'.heap.size v L := (h.below hb).mono hb.size
theorem InSl.form (h : InSl w B v L) : ∃ A c, v = .slice A L.length c ∧ L.length ≤ c ∧ c ≤ maxLen := by
  obtain ⟨A, c, e, h1, h2, _⟩ := h; exact ⟨A, c, e, h1, h2⟩
theorem InSl.nil (w : World) (B : Nat) : InSl w B (.slice none 0 0) [] := ⟨none, 0, rfl, Nat.le_refl _, by unfold maxLen; omega, InA.nil _ _ _⟩
/-- the element that a round reads -/
theorem InA.at_ (h : InA w B A L) {n i : Nat} (hn : L.length = n) (hi : i < n) : ∃ x ad, L[i]? = some x ∧ A = some ad ∧ ad.block < B ∧ w.cell? (ad.add i) = some (.int .i64 x) := by
  have hl : i < L.length := by omega
  obtain ⟨ad, h'⟩ := h i L[i] (List.getElem?_eq_getElem hl)
  exact ⟨L[i], ad, List.getElem?_eq_getElem hl, h'⟩
theorem InA.first {x : Int} (h : InA w B A (x :: L)) : ∃ ad, A = some ad ∧ ad.block < B ∧ w.cell? ad = some (.int .i64 x) := by
  obtain ⟨ad, ha, hb, h1⟩ := h 0 x rfl
  exact ⟨ad, ha, hb, by simpa [Addr.add] using h1⟩
theorem InA.drop {ad : Addr} (h : InA w B (some ad) L) (m : Nat) : InA w B (some (ad.add m)) (L.drop m) := fun i x hx => by
  rw [List.getElem?_drop] at hx
  obtain ⟨ad', e, hb, h1⟩ := h (m + i) x hx
  injection e with e
  subst e
  exact ⟨_, rfl, by rw [add_block]; exact hb, by rw [add_addN]; exact h1⟩
theorem InA.take (h : InA w B A L) (m : Nat) : InA w B A (L.take m) := fun i x hx => by
  refine h i x ?_
  rw [List.getElem?_take] at hx
  split at hx
  · exact hx
  · cases hx
theorem InA.cells {ad : Addr} (h : InA w B (some ad) L) : ∀ j u, (intsV L)[j]? = some u → w.cell? (ad.add j) = some u := fun j u hu => by
  unfold intsV at hu
  rw [List.getElem?_map] at hu
  cases hx : L[j]? with
  | none => rw [hx] at hu; cases hu
  | some x =>
    rw [hx] at hu
    simp only [Option.map_some, Option.some.injEq] at hu
    obtain ⟨ad', e, _, h1⟩ := h j x hx
    injection e with e
    subst e
    rw [← hu]; exact h1
theorem InA.none_nil (h : InA w B none L) : L = [] := by
  cases L with
  | nil => rfl
  | cons x L => obtain ⟨ad, e, _⟩ := h 0 x rfl; cases e
end
theorem grown_of_below {W W' : World} (h : Below W.heap.size W W') (row : Option Nat) : W.grownBy W' row := ⟨h.os, h.tape, h.output, h.size, fun i hi _ => h.block i hi⟩
theorem own_step {w w' : World} {base n z : Nat} {t : TypeId} {v : Value} {xs : List Value} (h : w.ownsRow base t z v n xs) (hb : Below w.heap.size w w') : w'.ownsRow base t z v n xs :=
  h.kept (grown_of_below hb none) (by rcases Classical.em (v.ownBlock = none) with h | h; exact .inl h; exact .inr h)
/-- a row of numbers of the call's own -/
structure OwN (W : World) (v : Value) (L : List Int) (X : World) : Prop where
  bel : Below W.heap.size W X
  own : X.ownsRow W.heap.size 3 1 v L.length (intsV L)
theorem OwN.start (W : World) : OwN W (.slice none 0 0) [] W := ⟨Below.refl _ _, World.ownsRow_nil _ _ _ _⟩
theorem OwN.step {W X Y : World} {v : Value} {L : List Int} (h : OwN W v L X) (hb : Below X.heap.size X Y) : OwN W v L Y := ⟨h.bel.trans (hb.mono h.bel.size), own_step h.own hb⟩
theorem OwN.grown {W X Y Z : World} {v v' : Value} {L M : List Int} (h : OwN W v L X) (hb : Below X.heap.size X Y) (hg : Y.grownBy Z v.ownBlock) (ho : Z.ownsRow W.heap.size 3 1 v' (L.length + M.length) (intsV L ++ intsV M)) : OwN W v' (L ++ M) Z :=
  ⟨(h.step hb).bel.grown hg (h.step hb).bel.size (fun r e => ((h.step hb).own.lt r e).1), by rw [List.length_append, intsV_append]; exact ho⟩
theorem OwN.bound {W X : World} {v : Value} {L : List Int} (h : OwN W v L X) : W.heap.size ≤ X.heap.size := h.bel.size
theorem OwN.sl {W X : World} {v : Value} {L : List Int} (h : OwN W v L X) : InSl X X.heap.size v L := by
  rcases h.own.2 with ⟨rfl, h0⟩ | ⟨g, cap, cur, rfl, hb, hg, h1, h2, h3, h4⟩
  · have := List.length_eq_zero_iff.1 h0
    subst this
    exact InSl.nil _ _
  · refine ⟨_, _, rfl, h1, h2, fun i x hx => ⟨_, rfl, (Array.getElem?_eq_some_iff.1 hg).1, ?_⟩⟩
    exact h.own.cells (g := g) rfl i _ (by rw [intsV, List.getElem?_map, hx]; rfl)
end Go.Proofs.YtplpogonkfnafaaGreat
namespace Go.Proofs.YtplpogonkfnafaaGreat
open Go.RowKit Go.Nm

theorem inc_of_next : ∀ {L : List Int}, (∀ j x y, L[j]? = some x → L[j + 1]? = some y → x < y) → Inc L
  | [], _ => List.Pairwise.nil
  | [x], _ => List.pairwise_cons.2 ⟨fun y h => by simp at h, List.Pairwise.nil⟩
  | x :: y :: L, h => by
    have ih : Inc (y :: L) := inc_of_next fun j a b h1 h2 => h (j + 1) a b (by simpa using h1) (by simpa using h2)
    have hxy : x < y := h 0 x y rfl rfl
    refine List.pairwise_cons.2 ⟨fun z hz => ?_, ih⟩
    rcases List.mem_cons.1 hz with rfl | hz
    · exact hxy
    · have := ih.head z hz; omega
theorem next_of_inc {L : List Int} (h : Inc L) {j : Nat} {x y : Int} (h1 : L[j]? = some x) (h2 : L[j + 1]? = some y) : x < y := by
  obtain ⟨a1, rfl⟩ := List.getElem?_eq_some_iff.1 h1
  obtain ⟨a2, rfl⟩ := List.getElem?_eq_some_iff.1 h2
  exact (List.pairwise_iff_getElem.1 h) j (j + 1) a1 a2 (by omega)
set_option maxRecDepth 100000 in
set_option maxHeartbeats 2000000 in
theorem increasing_any (v : Value) (L : List Int) (w : World) (hv : InSl w w.heap.size v L) (hn : L.length ≤ 1000000000) :
    Calls Tryz.prog 56 #[v] w fun e w' => e = .returned (.bool (decide (Inc L))) ∧ Below w.heap.size w w' := by
  obtain ⟨A, c, rfl, hc, hcm, hA⟩ := hv
  have HA := Lib.hid hA
  have HI := Lib.hid (@inc_of_next L)
  have HX := Lib.hid (fun h j x y => @next_of_inc L h j x y)
  clear hA hc hcm
  obtain ⟨r, hr⟩ : ∃ r, decide (Inc L) = r := ⟨_, rfl⟩
  rw [hr]
  have HR := Lib.hid hr
  clear hr
  generalize hL : L.length = n at *
  have HL := Lib.hid hL
  clear hL
  go_enter Tryz.func56, Tryz.ntmps56
  go_wp2_with fail
  go_loopw [6] (fun k wr => ∃ i : Nat, k = .int .i64 (i : Int) ∧ i ≤ n ∧ (∀ j x y, j + 1 < i → L[j]? = some x → L[j + 1]? = some y → x < y) ∧ Below w.heap.size w wr) (fun k _ => n - (intOf k).toNat)
  case atStart => exact ⟨0, rfl, by omega, fun j x y h => absurd h (by omega), Below.refl _ _⟩
  case round =>
    obtain ⟨i, rfl, hin, hso, hbl⟩ := hrel
    have HSo := Lib.hid hso
    have HB := Lib.hid hbl
    clear hso hbl
    by_cases hlt : i < n
    · obtain ⟨y, ad, hy, rfl, hb, hcy⟩ := (HA.out.below HB.out).at_ HL.out hlt
      have HY := Lib.hid hy
      clear hy
      by_cases h0 : i = 0
      · subst h0
        have HN := Lib.hid (show ∀ j x y, j + 1 < 0 + 1 → L[j]? = some x → L[j + 1]? = some y → x < y from fun j x y h => absurd h (by omega))
        have ss := fun z => Wb.cell hcy z
        go_wp2_with fail
        refine wp_region_wb (by kernel_rfl) (by kernel_rfl) ?_; (repeat ((with_reducible refine wpQuiet_step ?_); intro K hK; go_simp; (try (refine ite_neg_of (by simp [undef]) ?_)); first | (with_reducible refine hK _ ?_; clear hK K) | (apply Exists.intro; (with_reducible refine ⟨fun _ => ?_, hK _ ?_⟩); (fail); clear hK K))); (with_reducible refine wpQuiet_nil ?_); rintro w1 ⟨⟨_, hb1⟩, rfl⟩; (try dsimp only)
        go_wp2_with fail
        have HB2 := Lib.hid (HB.out.trans (hb1.mono HB.out.size))
        clear hb1 ss
        go_roundw
        case rel => exact ⟨1, by go_num, by omega, HN.out, HB2.out⟩
        case measure => simp [intOf]; omega
      · obtain ⟨k, hk⟩ : ∃ k, i - 1 = k := ⟨_, rfl⟩
        have hkn : k < n := by omega
        have hik : (i : Int) = (k : Int) + 1 := by omega
        obtain ⟨x, ad', hx, e, _, hcx⟩ := (HA.out.below HB.out).at_ (i := k) HL.out hkn
        injection e with e
        subst e
        have HXi := Lib.hid (And.intro hx (show k + 1 = i by omega))
        clear hx hk
        have hi0 : (0 : Int) < (i : Int) := by omega
        have hi1 : 0 < i := by omega
        have hiw : IntKind.i64.wrap ((i : Int) - 1) = (k : Int) := by rw [IntWalk.i64_in _ (by omega)]; omega
        clear hik
        have ss := fun z => And.intro (Wb.cell hcy z) (Wb.cell hcx z)
        by_cases hge : y ≤ x
        · have HF := Lib.hid (show r = false from by
            rw [← HR.out, decide_eq_false_iff_not]
            intro h
            have := HX.out h k x y HXi.out.1 (by rw [HXi.out.2]; exact HY.out)
            omega)
          go_wp2_with fail
          refine wp_region_wb (by kernel_rfl) (by kernel_rfl) ?_; (repeat ((with_reducible refine wpQuiet_step ?_); intro K hK; go_simp; (try (refine ite_neg_of (by simp [undef]) ?_)); first | (with_reducible refine hK _ ?_; clear hK K) | (apply Exists.intro; (with_reducible refine ⟨fun _ => ?_, hK _ ?_⟩); (fail); clear hK K))); (with_reducible refine wpQuiet_nil ?_); rintro w1 ⟨⟨_, hb1⟩, rfl⟩; (try dsimp only)
          go_wp2_with fail
          go_ret
          exact ⟨ret_b HF.out.symm, HB.out.trans (hb1.mono HB.out.size)⟩
        · have HN := Lib.hid (show ∀ j x y, j + 1 < i + 1 → L[j]? = some x → L[j + 1]? = some y → x < y from fun j x' y' h h1 h2 => by
            by_cases e : j = k
            · subst e
              rw [HXi.out.1] at h1
              rw [HXi.out.2, HY.out] at h2
              injection h1 with h1; injection h2 with h2; omega
            · exact HSo.out j x' y' (by have := HXi.out.2; omega) h1 h2)
          have hge' : ¬ (y ≤ x) := hge
          go_wp2_with fail
          refine wp_region_wb (by kernel_rfl) (by kernel_rfl) ?_; (repeat ((with_reducible refine wpQuiet_step ?_); intro K hK; go_simp; (try (refine ite_neg_of (by simp [undef]) ?_)); first | (with_reducible refine hK _ ?_; clear hK K) | (apply Exists.intro; (with_reducible refine ⟨fun _ => ?_, hK _ ?_⟩); (fail); clear hK K))); (with_reducible refine wpQuiet_nil ?_); rintro w1 ⟨⟨_, hb1⟩, rfl⟩; (try dsimp only)
          go_wp2_with fail
          have HB2 := Lib.hid (HB.out.trans (hb1.mono HB.out.size))
          clear hb1 ss
          go_roundw
          case rel => exact ⟨i + 1, by go_num, by omega, HN.out, HB2.out⟩
          case measure => simp [intOf]; omega
    · have HT := Lib.hid (show r = true from by
        rw [← HR.out, decide_eq_true_eq]
        exact HI.out fun j x y h1 h2 => HSo.out j x y (by have := (List.getElem?_eq_some_iff.1 h2).1; have := HL.out; omega) h1 h2)
      go_wp2_with fail
      go_ret
      exact ⟨ret_b HT.out.symm, HB.out⟩
theorem inc_le {L : List Int} (h : Inc L) {i j : Nat} {x y : Int} (hx : L[i]? = some x) (hy : L[j]? = some y) (hij : i ≤ j) : x ≤ y := by
  obtain ⟨a1, rfl⟩ := List.getElem?_eq_some_iff.1 hx
  obtain ⟨a2, rfl⟩ := List.getElem?_eq_some_iff.1 hy
  rcases Nat.lt_or_eq_of_le hij with h1 | h1
  · exact Int.le_of_lt ((List.pairwise_iff_getElem.1 h) i j a1 a2 h1)
  · subst h1; exact Int.le_refl _
theorem nms_iff {L : List Int} (h : Inc L) {x y : Int} {k : Nat} (hx : L[0]? = some x) (hy : L[k]? = some y) (hk : k + 1 = L.length) : Nms L ↔ 0 < x ∧ y ≤ 65535 := by
  constructor
  · intro ⟨_, hall⟩
    have h1 := hall x (List.mem_of_getElem? hx)
    have h2 := hall y (List.mem_of_getElem? hy)
    omega
  · rintro ⟨h1, h2⟩
    refine ⟨h, fun z hz => ?_⟩
    obtain ⟨i, hi, rfl⟩ := List.getElem_of_mem hz
    have hzi := List.getElem?_eq_getElem hi
    have g1 := inc_le h hx hzi (Nat.zero_le _)
    have g2 := inc_le h hzi hy (by omega)
    omega
set_option maxRecDepth 100000 in
set_option maxHeartbeats 2000000 in
theorem areNames_any (v : Value) (L : List Int) (w : World) (hv : InSl w w.heap.size v L) (hn : L.length ≤ 1000000000) :
    Calls Tryz.prog 29 #[v] w fun e w' => e = .returned (.bool (decide (Nms L))) ∧ Below w.heap.size w w' := by
  have HC := Lib.hid (increasing_any v L w hv hn)
  obtain ⟨A, c, rfl, hc, hcm, hA⟩ := hv
  have HA := Lib.hid hA
  clear hA hc hcm
  obtain ⟨r, hr⟩ : ∃ r, decide (Nms L) = r := ⟨_, rfl⟩
  rw [hr]
  by_cases hi : Inc L
  · rw [decide_eq_true hi] at HC
    cases L with
    | nil =>
      have HF := Lib.hid (show r = true from by rw [← hr]; decide)
      clear hr hi
      go_enter Tryz.func29, Tryz.ntmps29
      go_wp2_with fail
      refine HC.out.mono ?_
      rintro e w1 ⟨rfl, hb⟩
      go_wp2_with fail
      go_ret
      exact ⟨ret_b HF.out.symm, hb⟩
    | cons x M =>
      obtain ⟨k, hk⟩ : ∃ k, (x :: M).length = k + 1 := ⟨M.length, rfl⟩
      have HH := Lib.hid (fun y hy => nms_iff (x := x) (y := y) (k := k) hi rfl hy hk.symm)
      have HR := Lib.hid hr
      have HK := Lib.hid hk
      clear hi hr
      rw [hk] at HC ⊢
      clear hk
      have hkb : k ≤ 1000000000 := by have := HK.out; omega
      go_enter Tryz.func29, Tryz.ntmps29
      go_wp2_with fail
      refine HC.out.mono ?_
      rintro e w1 ⟨rfl, hb⟩
      obtain ⟨x', ad, hx, rfl, hbd, hcx⟩ := (HA.out.below hb).at_ (i := 0) HK.out (by omega)
      obtain rfl : x = x' := by simpa using hx
      obtain ⟨y, ad', hy, e, _, hcy⟩ := (HA.out.below hb).at_ (i := k) HK.out (by omega)
      injection e with e
      subst e
      have HN := Lib.hid (HH.out y hy)
      have hcx' : w1.cell? ad = some (.int .i64 x) := by simpa [Addr.add] using hcx
      have HB := Lib.hid hb
      clear hx hy hb
      by_cases h0 : 0 < x
      · by_cases h1 : y ≤ 65535
        · have HF := Lib.hid (show r = true from by rw [← HR.out, decide_eq_true_eq]; exact HN.out.2 ⟨h0, h1⟩)
          go_wp2_with fail
          go_ret
          exact ⟨ret_b HF.out.symm, HB.out⟩
        · have HF := Lib.hid (show r = false from by rw [← HR.out, decide_eq_false_iff_not]; exact fun h => h1 (HN.out.1 h).2)
          go_wp2_with fail
          go_ret
          exact ⟨ret_b (by rw [HF.out]; simp [h1]; omega), HB.out⟩
      · have HF := Lib.hid (show r = false from by rw [← HR.out, decide_eq_false_iff_not]; exact fun h => h0 (HN.out.1 h).1)
        go_wp2_with fail
        go_ret
        exact ⟨ret_b HF.out.symm, HB.out⟩
  · rw [decide_eq_false hi] at HC
    have HF := Lib.hid (show r = false from by rw [← hr, decide_eq_false_iff_not]; exact fun h => hi h.1)
    clear hr hi
    go_enter Tryz.func29, Tryz.ntmps29
    go_wp2_with fail
    refine HC.out.mono ?_
    rintro e w1 ⟨rfl, hb⟩
    go_wp2_with fail
    go_ret
    exact ⟨ret_b HF.out.symm, hb⟩
set_option maxRecDepth 100000 in
set_option maxHeartbeats 2000000 in
theorem isVersion_any (v : Value) (L : List Int) (w : World) (hv : InSl w w.heap.size v L) (hn : L.length ≤ 1000000000) :
    Calls Tryz.prog 53 #[v] w fun e w' => e = .returned (.bool (decide (Ver L))) ∧ Below w.heap.size w w' := by
  have HC := Lib.hid (areNames_any v L w hv hn)
  obtain ⟨A, c, rfl, hc, hcm, hA⟩ := hv
  clear hA hc hcm
  have hd : decide (Ver L) = (decide (0 < L.length) && (decide (L.length ≤ 400) && decide (Nms L))) := by
    rw [Bool.eq_iff_iff, decide_eq_true_iff, Bool.and_eq_true, Bool.and_eq_true, decide_eq_true_iff, decide_eq_true_iff, decide_eq_true_iff]; exact Iff.rfl
  have HD := Lib.hid hd
  clear hd
  generalize decide (Nms L) = b at *
  generalize L.length = n at *
  by_cases h0 : 0 < n
  · by_cases h1 : n ≤ 400
    · have HF := Lib.hid (show decide (Ver L) = b from by rw [HD.out, decide_eq_true h0, decide_eq_true h1]; rfl)
      have h0' : (0 : Int) < (n : Int) := by omega
      have h1' : (n : Int) ≤ 400 := by omega
      cases b
      all_goals
        go_enter Tryz.func53, Tryz.ntmps53
        go_wp2_with fail
        refine HC.out.mono ?_
        rintro e w1 ⟨rfl, hb⟩
        go_wp2_with fail
        go_ret
        exact ⟨ret_b HF.out.symm, hb⟩
    · have HF := Lib.hid (show decide (Ver L) = false from by rw [HD.out, decide_eq_true h0, decide_eq_false h1]; rfl)
      have h0' : (0 : Int) < (n : Int) := by omega
      have h1' : ¬ (n : Int) ≤ 400 := by omega
      go_enter Tryz.func53, Tryz.ntmps53
      go_wp2_with fail
      go_ret
      exact ⟨ret_b HF.out.symm, Below.refl _ _⟩
  · have HF := Lib.hid (show decide (Ver L) = false from by rw [HD.out, decide_eq_false h0]; rfl)
    have h0' : ¬ (0 : Int) < (n : Int) := by omega
    go_enter Tryz.func53, Tryz.ntmps53
    go_wp2_with fail
    go_ret
    exact ⟨ret_b HF.out.symm, Below.refl _ _⟩
end Go.Proofs.YtplpogonkfnafaaGreat
namespace Go.Proofs.YtplpogonkfnafaaGreat
open Go.RowKit Go.Nm

/-- a slice whose first element is struck -/
theorem tail_sl {w : World} {B : Nat} {ad : Addr} {x : Int} {g : List Int} {c : Nat} (h : InA w B (some ad) (x :: g)) (hc : g.length + 1 ≤ c) :
    InA w B (if c = 1 then some ad else some ⟨ad.block, ad.off + 1, none⟩) g := by
  by_cases h1 : c = 1
  · have hg : g = [] := List.length_eq_zero_iff.1 (by omega)
    subst hg
    exact InA.nil _ _ _
  · rw [if_neg h1]
    exact h.drop 1
theorem wo_next {l g : List Int} {i : Nat} {x : Int} (h : l[i]? = some x) : wo (l.drop i) g = (if (g.dropWhile (fun y => decide (y < x))).head? = some x then wo (l.drop (i + 1)) (g.dropWhile (fun y => decide (y < x))) else x :: wo (l.drop (i + 1)) (g.dropWhile (fun y => decide (y < x)))) := by
  obtain ⟨hi, rfl⟩ := List.getElem?_eq_some_iff.1 h
  rw [List.drop_eq_getElem_cons hi]
  conv => lhs; unfold wo
def lenOf : Value → Nat
  | .slice _ n _ => n
  | _ => 0
set_option maxRecDepth 100000 in
set_option maxHeartbeats 4000000 in
theorem without_any (u v : Value) (l g : List Int) (w : World) (hu : InSl w w.heap.size u l) (hv : InSl w w.heap.size v g) (hl : l.length ≤ 1000000) (hg : g.length ≤ 1000000) :
    Calls Tryz.prog 71 #[u, v] w fun e w' => ∃ r, e = .returned r ∧ OwN w r (wo l g) w' := by
  have HU := Lib.hid hu
  have HV := Lib.hid hv
  obtain ⟨A, c, rfl, hc, hcm, hA⟩ := hu
  obtain ⟨B, d, rfl, hd, hdm, hB⟩ := hv
  have HA := Lib.hid hA
  have HB := Lib.hid hB
  obtain ⟨i0, hi0, hz0, hz1, hz2⟩ := infoI
  have HZ := Lib.hid (show i0.size = 1 ∧ i0.bytes = 8 ∧ Tryz.prog.info? 3 = some i0 ∧ i0.zero = some (.int .i64 0) from ⟨hz1, hz2, hi0, hz0⟩)
  clear hA hB hz0 hz1 hz2 hi0
  generalize hnl : l.length = n at *
  have HL := Lib.hid hnl
  clear hnl
  obtain ⟨R, hR⟩ : ∃ R, wo l g = R := ⟨_, rfl⟩
  rw [hR]
  have HR := Lib.hid hR
  clear hR
  go_enter Tryz.func71, Tryz.ntmps71
  go_wp2_with (refine wpList_make_own _ rfl _ _ 22 rfl w.heap.size 3 i0 (.int .i64 0) 1 Tryz.underlying22 HZ.out.2.2.1 HZ.out.2.2.2 HZ.out.1 .i64 .i64 (n : Int) n rfl rfl rfl (by rw [HZ.out.2.1]; omega) (by unfold maxLen; omega) (Nat.le_refl _) ?_; intro w1 hown hgr)
  go_wp2_with fail
  have HO0 := Lib.hid (show OwN w (.slice (some ⟨w.heap.size, 0, none⟩) 0 n) [] w1 from ⟨(Below.refl _ _).grown hgr (Nat.le_refl _) (fun r e => by cases e), hown⟩)
  clear hown hgr
  go_loopw [1, 5, 13] (fun s v k wr => ∃ (i : Nat) (pre g' : List Int) (B' : Option Addr) (d' : Nat), k = .int .i64 (i : Int) ∧ i ≤ n ∧ s = .slice B' g'.length d' ∧ g'.length ≤ d' ∧ g'.length ≤ 1000000 ∧ InA w w.heap.size B' g' ∧ pre.length ≤ i ∧ pre ++ wo (l.drop i) g' = R ∧ OwN w v pre wr) (fun _ _ k _ => n - (intOf k).toNat)
  case atStart => exact ⟨0, [], g, B, d, rfl, by omega, rfl, hd, hg, HB.out, by simp, by simpa using HR.out, HO0.out⟩
  case round =>
    obtain ⟨i, pre, g', B', d', rfl, hin, rfl, hgd, hgl, hg', hpl, hpre, hO⟩ := hrel
    have HG := Lib.hid (And.intro hg' (And.intro hgd hgl))
    have HP := Lib.hid (And.intro hpre hO)
    clear hg' hgd hgl hpre hO
    by_cases hlt : i < n
    · obtain ⟨x, ad, hx, rfl, hb, hcx⟩ := (HA.out.below HP.out.2.bel).at_ HL.out hlt
      have HX := Lib.hid (wo_next (g := g') hx)
      clear hx
      clear hb
      go_wp2_with fail
      go_loop [1] (fun s => ∃ (g2 : List Int) (B2 : Option Addr) (d2 : Nat), s = .slice B2 g2.length d2 ∧ InA w w.heap.size B2 g2 ∧ g2.length ≤ d2 ∧ g2.length ≤ 1000000 ∧ g2.dropWhile (fun y => decide (y < x)) = g'.dropWhile (fun y => decide (y < x))) (fun s => lenOf s)
      case atStart => exact ⟨g', B', d', rfl, HG.out.1, HG.out.2.1, HG.out.2.2, rfl⟩
      case round =>
        obtain ⟨g2, B2, d2, rfl, h1, h2, h3, h4⟩ := hrel
        have HG2 := Lib.hid (And.intro h1 (And.intro h2 h3))
        have HDr := Lib.hid h4
        clear h1 h2 h3 h4
        cases g2 with
        | nil =>
          have HE := Lib.hid (show (pre ++ [x]) ++ wo (l.drop (i + 1)) [] = R from by
            have h := HDr.out
            rw [← HP.out.1, HX.out, ← h]; simp)
          clear HX HDr
          have HO3 := Lib.hid ((HP.out.2.own).alloc (.cells #[.int .i64 x] 3))
          have HNw := Lib.hid (cell_one_new wr (.int .i64 x) 3)
          have HBs := Lib.hid (show w.heap.size ≤ (wr.alloc (.cells #[.int .i64 x] 3)).heap.size from by have := HP.out.2.bound; simp; omega)
          go_wp2_with (at_builtin; refine wpList_append_own _ rfl _ _ 22 rfl w.heap.size 3 i0 (.int .i64 0) 1 8 Tryz.underlying22 HZ.out.2.2.1 HZ.out.2.2.2 HZ.out.1 HZ.out.2.1 rfl (by decide) u5 pre.length (intsV pre) rfl HO3.out ⟨wr.heap.size, 0, none⟩ 1 1 [.int .i64 x] rfl rfl HNw.out (by intro u hu; simp at hu; subst hu; rfl) (by unfold maxLen; omega) (by omega) HBs.out ?_; intro v4 w4 hown4 hg4 hnn4)
          have HO4 := Lib.hid (show OwN w v4 (pre ++ [x]) w4 from HP.out.2.grown (M := [x]) (below_new _) hg4 hown4)
          clear hown4 hg4 hnn4
          go_roundw
          case rel => exact ⟨i + 1, pre ++ [x], [], _, _, by go_num, by omega, rfl, by simp, by simp, InA.nil _ _ _, by simp; omega, HE.out, HO4.out⟩
          case measure => simp [intOf]; omega
        | cons y g3 =>
          obtain ⟨ad2, rfl, hbd2, hcy⟩ := (HG2.out.1.below HP.out.2.bel).first
          have HD2 := Lib.hid (And.intro HG2.out.2.1 HG2.out.2.2)
          have hd2 : g3.length + 1 ≤ d2 := by have := HG2.out.2.1; simpa using this
          rw [List.length_cons]
          generalize hg3 : g3.length = m at *
          have HG3 := Lib.hid hg3
          clear hg3 hbd2
          by_cases hyx : y < x
          · have HT := Lib.hid (tail_sl (c := d2) HG2.out.1 (by rw [HG3.out]; exact hd2))
            have HDr3 := Lib.hid (show g3.dropWhile (fun y => decide (y < x)) = g'.dropWhile (fun y => decide (y < x)) from by
              have h := HDr.out
              rw [List.dropWhile_cons, if_pos (by simpa using hyx)] at h
              exact h)
            clear HG2
            go_wp2_with fail
            go_round
            case rel => exact ⟨g3, _, d2 - 1, by rw [HG3.out], HT.out, by rw [HG3.out]; omega, by have := HD2.out.2; simp at this; omega, HDr3.out⟩
            case measure => simp [lenOf]
          · have hne : ¬ y < x := hyx
            by_cases hxy : y = x
            · have HE := Lib.hid (show pre ++ wo (l.drop (i + 1)) (y :: g3) = R from by
                have h := HDr.out
                rw [List.dropWhile_cons, if_neg (by simpa using hyx)] at h
                rw [← HP.out.1, HX.out, ← h, if_pos (by rw [List.head?_cons, hxy])])
              have HGy := Lib.hid HG2.out
              clear HX HDr HG2
              subst hxy
              go_wp2_with fail
              go_roundw
              case rel => exact ⟨i + 1, pre, y :: g3, _, _, by go_num, by omega, by rw [List.length_cons, HG3.out], HGy.out.2.1, HGy.out.2.2, HGy.out.1, by omega, HE.out, HP.out.2⟩
              case measure => simp [intOf]; omega
            · have HE := Lib.hid (show (pre ++ [x]) ++ wo (l.drop (i + 1)) (y :: g3) = R from by
                have h := HDr.out
                rw [List.dropWhile_cons, if_neg (by simpa using hyx)] at h
                rw [← HP.out.1, HX.out, ← h, if_neg (by rw [List.head?_cons]; intro e; injection e with e; exact hxy e)]; simp)
              have HGy := Lib.hid HG2.out
              clear HX HDr HG2
              have hb1 : (y != x) = true := by simpa using hxy
              have HO3 := Lib.hid ((HP.out.2.own).alloc (.cells #[.int .i64 x] 3))
              have HNw := Lib.hid (cell_one_new wr (.int .i64 x) 3)
              have HBs := Lib.hid (show w.heap.size ≤ (wr.alloc (.cells #[.int .i64 x] 3)).heap.size from by have := HP.out.2.bound; simp; omega)
              go_wp2_with (at_builtin; refine wpList_append_own _ rfl _ _ 22 rfl w.heap.size 3 i0 (.int .i64 0) 1 8 Tryz.underlying22 HZ.out.2.2.1 HZ.out.2.2.2 HZ.out.1 HZ.out.2.1 rfl (by decide) u5 pre.length (intsV pre) rfl HO3.out ⟨wr.heap.size, 0, none⟩ 1 1 [.int .i64 x] rfl rfl HNw.out (by intro u hu; simp at hu; subst hu; rfl) (by unfold maxLen; omega) (by omega) HBs.out ?_; intro v4 w4 hown4 hg4 hnn4)
              have HO4 := Lib.hid (show OwN w v4 (pre ++ [x]) w4 from HP.out.2.grown (M := [x]) (below_new _) hg4 hown4)
              clear hown4 hg4 hnn4
              go_roundw
              case rel => exact ⟨i + 1, pre ++ [x], y :: g3, _, _, by go_num, by omega, by rw [List.length_cons, HG3.out], HGy.out.2.1, HGy.out.2.2, HGy.out.1, by simp; omega, HE.out, HO4.out⟩
              case measure => simp [intOf]; omega
    · have HE := Lib.hid (show pre = R from by
        have h := HP.out.1
        rw [List.drop_eq_nil_of_le (by rw [HL.out]; omega)] at h
        simpa [wo] using h)
      go_wp2_with fail
      go_ret
      exact ⟨_, rfl, by rw [← HE.out]; exact HP.out.2⟩
end Go.Proofs.YtplpogonkfnafaaGreat
namespace Go.Proofs.YtplpogonkfnafaaGreat
open Go.RowKit Go.Nm

theorem mg_next {l g : List Int} {i : Nat} {x : Int} (h : l[i]? = some x) : mg (l.drop i) g = g.takeWhile (fun y => decide (y < x)) ++ x :: mg (l.drop (i + 1)) (g.dropWhile (fun y => decide (y < x))) := by
  obtain ⟨hi, rfl⟩ := List.getElem?_eq_some_iff.1 h
  rw [List.drop_eq_getElem_cons hi]
  conv => lhs; unfold mg
/-- what is left of the second list's lower names, and all behind -/
def mgr (x : Int) (l g : List Int) : List Int := g.takeWhile (fun y => decide (y < x)) ++ x :: mg l (g.dropWhile (fun y => decide (y < x)))
theorem mgr_lt {x y : Int} {l g : List Int} (h : y < x) : mgr x l (y :: g) = y :: mgr x l g := by unfold mgr; simp [h]
theorem mgr_ge {x : Int} {l g : List Int} (h : ∀ y, g.head? = some y → ¬ y < x) : mgr x l g = x :: mg l g := by
  cases g with
  | nil => simp [mgr]
  | cons y g => have := h y rfl; simp [mgr, this]
theorem pre_le {pre a R : List Int} (h : pre ++ a = R) : pre.length ≤ R.length := by rw [← h, List.length_append]; omega
set_option maxRecDepth 100000 in
set_option maxHeartbeats 8000000 in
theorem merge_any (u v : Value) (l g : List Int) (w : World) (hu : InSl w w.heap.size u l) (hv : InSl w w.heap.size v g) (hl : l.length ≤ 1000000) (hg : g.length ≤ 1000000) :
    Calls Tryz.prog 83 #[u, v] w fun e w' => ∃ r, e = .returned r ∧ OwN w r (mg l g) w' := by
  have HRl := Lib.hid (show (mg l g).length ≤ 2000000 from by rw [mg_len]; omega)
  obtain ⟨A, c, rfl, hc, hcm, hA⟩ := hu
  obtain ⟨B, d, rfl, hd, hdm, hB⟩ := hv
  have HA := Lib.hid hA
  have HB := Lib.hid hB
  obtain ⟨i0, hi0, hz0, hz1, hz2⟩ := infoI
  have HZ := Lib.hid (show i0.size = 1 ∧ i0.bytes = 8 ∧ Tryz.prog.info? 3 = some i0 ∧ i0.zero = some (.int .i64 0) from ⟨hz1, hz2, hi0, hz0⟩)
  clear hA hB hz0 hz1 hz2 hi0
  obtain ⟨R, hR⟩ : ∃ R, mg l g = R := ⟨_, rfl⟩
  rw [hR] at HRl ⊢
  have HR := Lib.hid hR
  clear hR
  generalize hnl : l.length = n at *
  generalize hnm : g.length = m at *
  have HL := Lib.hid hnl
  have HM := Lib.hid hnm
  clear hnl hnm
  go_enter Tryz.func83, Tryz.ntmps83
  go_wp2_with (refine wpList_make_own _ rfl _ _ 22 rfl w.heap.size 3 i0 (.int .i64 0) 1 Tryz.underlying22 HZ.out.2.2.1 HZ.out.2.2.2 HZ.out.1 .i64 .i64 ((n : Int) + (m : Int)) (n + m) rfl rfl (by omega) (by rw [HZ.out.2.1]; omega) (by unfold maxLen; omega) (Nat.le_refl _) ?_; intro w1 hown hgr)
  go_wp2_with fail
  have HO0 := Lib.hid (show OwN w (.slice (some ⟨w.heap.size, 0, none⟩) 0 (n + m)) [] w1 from ⟨(Below.refl _ _).grown hgr (Nat.le_refl _) (fun r e => by cases e), hown⟩)
  clear hown hgr
  go_loopw [1, 5, 16] (fun s v k wr => ∃ (i : Nat) (pre g' : List Int) (B' : Option Addr) (d' : Nat), k = .int .i64 (i : Int) ∧ i ≤ n ∧ s = .slice B' g'.length d' ∧ g'.length ≤ d' ∧ g'.length ≤ 1000000 ∧ InA w w.heap.size B' g' ∧ pre ++ mg (l.drop i) g' = R ∧ OwN w v pre wr) (fun _ _ k _ => n - (intOf k).toNat)
  case atStart => exact ⟨0, [], g, B, d, rfl, by omega, by rw [HM.out], by rw [HM.out]; exact hd, by rw [HM.out]; exact hg, HB.out, by simpa using HR.out, HO0.out⟩
  case round =>
    obtain ⟨i, pre, g', B', d', rfl, hin, rfl, hgd, hgl, hg', hpre, hO⟩ := hrel
    have HG := Lib.hid (And.intro hg' (And.intro hgd hgl))
    have HP := Lib.hid (And.intro hpre hO)
    clear hg' hgd hgl hpre hO
    by_cases hlt : i < n
    · obtain ⟨x, ad, hx, rfl, hb, hcx⟩ := (HA.out.below HP.out.2.bel).at_ HL.out hlt
      have HX := Lib.hid (show pre ++ mgr x (l.drop (i + 1)) g' = R from by rw [← HP.out.1, mg_next hx]; rfl)
      have HOw := Lib.hid HP.out.2
      clear hx HP hb
      go_wp2_with fail
      go_loopw [1, 5] (fun s v wq => ∃ (pre2 g2 : List Int) (B2 : Option Addr) (d2 : Nat), s = .slice B2 g2.length d2 ∧ InA w w.heap.size B2 g2 ∧ g2.length ≤ d2 ∧ g2.length ≤ 1000000 ∧ pre2 ++ mgr x (l.drop (i + 1)) g2 = R ∧ OwN w v pre2 wq) (fun s _ _ => lenOf s)
      case atStart => exact ⟨pre, g', B', d', rfl, HG.out.1, HG.out.2.1, HG.out.2.2, HX.out, HOw.out⟩
      case round =>
        obtain ⟨pre2, g2, B2, d2, rfl, h1, h2, h3, h4, h5⟩ := hrel
        have HG2 := Lib.hid (And.intro h1 (And.intro h2 h3))
        have HE2 := Lib.hid h4
        have HO2 := Lib.hid h5
        have hpl : pre2.length ≤ 2000000 := Nat.le_trans (pre_le h4) HRl.out
        clear h1 h2 h3 h4 h5 HX HOw HG
        cases g2 with
        | nil =>
          have HE := Lib.hid (show (pre2 ++ [x]) ++ mg (l.drop (i + 1)) [] = R from by
            rw [← HE2.out, mgr_ge (by simp)]; simp)
          clear HE2
          have HO3 := Lib.hid ((HO2.out.own).alloc (.cells #[.int .i64 x] 3))
          have HNw := Lib.hid (cell_one_new wr (.int .i64 x) 3)
          have HBs := Lib.hid (show w.heap.size ≤ (wr.alloc (.cells #[.int .i64 x] 3)).heap.size from by have := HO2.out.bound; simp; omega)
          go_wp2_with (at_builtin; refine wpList_append_own _ rfl _ _ 22 rfl w.heap.size 3 i0 (.int .i64 0) 1 8 Tryz.underlying22 HZ.out.2.2.1 HZ.out.2.2.2 HZ.out.1 HZ.out.2.1 rfl (by decide) u5 pre2.length (intsV pre2) rfl HO3.out ⟨wr.heap.size, 0, none⟩ 1 1 [.int .i64 x] rfl rfl HNw.out (by intro u hu; simp at hu; subst hu; rfl) (by unfold maxLen; omega) (by omega) HBs.out ?_; intro v4 w4 hown4 hg4 hnn4)
          have HO4 := Lib.hid (show OwN w v4 (pre2 ++ [x]) w4 from HO2.out.grown (M := [x]) (below_new _) hg4 hown4)
          clear hown4 hg4 hnn4
          go_roundw
          case rel => exact ⟨i + 1, pre2 ++ [x], [], _, _, by go_num, by omega, rfl, by simp, by simp, InA.nil _ _ _, HE.out, HO4.out⟩
          case measure => simp [intOf]; omega
        | cons y g3 =>
          obtain ⟨ad2, rfl, hbd2, hcy⟩ := (HG2.out.1.below HO2.out.bel).first
          have HD2 := Lib.hid (And.intro HG2.out.2.1 HG2.out.2.2)
          have hd2 : g3.length + 1 ≤ d2 := by have := HG2.out.2.1; simpa using this
          rw [List.length_cons]
          generalize hg3 : g3.length = k3 at *
          have HG3 := Lib.hid hg3
          clear hg3 hbd2
          by_cases hyx : y < x
          · have HT := Lib.hid (tail_sl (c := d2) HG2.out.1 (by rw [HG3.out]; exact hd2))
            have HE := Lib.hid (show (pre2 ++ [y]) ++ mgr x (l.drop (i + 1)) g3 = R from by
              rw [← HE2.out, mgr_lt hyx]; simp)
            clear HG2 HE2
            have HO3 := Lib.hid ((HO2.out.own).alloc (.cells #[.int .i64 y] 3))
            have HNw := Lib.hid (cell_one_new wr (.int .i64 y) 3)
            have HBs := Lib.hid (show w.heap.size ≤ (wr.alloc (.cells #[.int .i64 y] 3)).heap.size from by have := HO2.out.bound; simp; omega)
            go_wp2_with (at_builtin; refine wpList_append_own _ rfl _ _ 22 rfl w.heap.size 3 i0 (.int .i64 0) 1 8 Tryz.underlying22 HZ.out.2.2.1 HZ.out.2.2.2 HZ.out.1 HZ.out.2.1 rfl (by decide) u5 pre2.length (intsV pre2) rfl HO3.out ⟨wr.heap.size, 0, none⟩ 1 1 [.int .i64 y] rfl rfl HNw.out (by intro u hu; simp at hu; subst hu; rfl) (by unfold maxLen; omega) (by omega) HBs.out ?_; intro v4 w4 hown4 hg4 hnn4)
            have HO4 := Lib.hid (show OwN w v4 (pre2 ++ [y]) w4 from HO2.out.grown (M := [y]) (below_new _) hg4 hown4)
            clear hown4 hg4 hnn4
            go_wp2_with fail
            go_roundw
            case rel => exact ⟨pre2 ++ [y], g3, _, d2 - 1, by rw [HG3.out], HT.out, by rw [HG3.out]; omega, by have := HD2.out.2; simp at this; omega, HE.out, HO4.out⟩
            case measure => simp [lenOf]
          · have hne : ¬ y < x := hyx
            have HE := Lib.hid (show (pre2 ++ [x]) ++ mg (l.drop (i + 1)) (y :: g3) = R from by
              rw [← HE2.out, mgr_ge (by intro z hz; simp at hz; subst hz; exact hyx)]; simp)
            have HGy := Lib.hid HG2.out
            clear HG2 HE2
            have HO3 := Lib.hid ((HO2.out.own).alloc (.cells #[.int .i64 x] 3))
            have HNw := Lib.hid (cell_one_new wr (.int .i64 x) 3)
            have HBs := Lib.hid (show w.heap.size ≤ (wr.alloc (.cells #[.int .i64 x] 3)).heap.size from by have := HO2.out.bound; simp; omega)
            go_wp2_with (at_builtin; refine wpList_append_own _ rfl _ _ 22 rfl w.heap.size 3 i0 (.int .i64 0) 1 8 Tryz.underlying22 HZ.out.2.2.1 HZ.out.2.2.2 HZ.out.1 HZ.out.2.1 rfl (by decide) u5 pre2.length (intsV pre2) rfl HO3.out ⟨wr.heap.size, 0, none⟩ 1 1 [.int .i64 x] rfl rfl HNw.out (by intro u hu; simp at hu; subst hu; rfl) (by unfold maxLen; omega) (by omega) HBs.out ?_; intro v4 w4 hown4 hg4 hnn4)
            have HO4 := Lib.hid (show OwN w v4 (pre2 ++ [x]) w4 from HO2.out.grown (M := [x]) (below_new _) hg4 hown4)
            clear hown4 hg4 hnn4
            go_roundw
            case rel => exact ⟨i + 1, pre2 ++ [x], y :: g3, _, _, by go_num, by omega, by rw [List.length_cons, HG3.out], HGy.out.2.1, HGy.out.2.2, HGy.out.1, HE.out, HO4.out⟩
            case measure => simp [intOf]; omega
    · have HE := Lib.hid (show pre ++ g' = R from by
        have h := HP.out.1
        rw [List.drop_eq_nil_of_le (by rw [HL.out]; omega)] at h
        simpa [mg] using h)
      have hpl : pre.length ≤ 2000000 := Nat.le_trans (pre_le HE.out) HRl.out
      have hgl : g'.length ≤ 1000000 := HG.out.2.2
      cases B' with
      | none =>
        have hn0 := HG.out.1.none_nil
        subst hn0
        have HO2 := Lib.hid HP.out.2.own
        go_wp2_with (at_builtin; refine wpList_append_nil rfl _ _ 22 rfl w.heap.size 3 i0 1 d' Tryz.underlying22 HZ.out.2.2.1 u5 pre.length (intsV pre) rfl HO2.out rfl ?_)
        go_wp2_with fail
        go_ret
        exact ⟨_, rfl, by rw [← HE.out, List.append_nil]; exact HP.out.2⟩
      | some ad2 =>
        have HC := Lib.hid (HG.out.1.below HP.out.2.bel).cells
        have HO2 := Lib.hid HP.out.2.own
        have HLn := Lib.hid (intsV_len g')
        have HOne := Lib.hid (intsV_one g')
        have HBs := Lib.hid HP.out.2.bound
        go_wp2_with (at_builtin; refine wpList_append_own _ rfl _ _ 22 rfl w.heap.size 3 i0 (.int .i64 0) 1 8 Tryz.underlying22 HZ.out.2.2.1 HZ.out.2.2.2 HZ.out.1 HZ.out.2.1 rfl (by decide) u5 pre.length (intsV pre) rfl HO2.out ad2 g'.length d' (intsV g') rfl (by rw [HLn.out, Nat.mul_one]) HC.out HOne.out (by unfold maxLen; omega) (by omega) HBs.out ?_; intro v4 w4 hown4 hg4 hnn4)
        have HO4 := Lib.hid (show OwN w v4 (pre ++ g') w4 from HP.out.2.grown (Below.refl _ _) hg4 hown4)
        clear hown4 hg4 hnn4
        go_wp2_with fail
        go_ret
        exact ⟨_, rfl, by rw [← HE.out]; exact HO4.out⟩
set_option maxRecDepth 100000 in
set_option maxHeartbeats 4000000 in
/-- replace returns the list itself or a new one -/
theorem replace_any (u v t : Value) (l fr to : List Int) (w : World) (hu : InSl w w.heap.size u l) (hv : InSl w w.heap.size v fr) (ht : InSl w w.heap.size t to) (hl : l.length ≤ 1000000) (hf : fr.length ≤ 1000000) (hto : to.length ≤ 1000000) :
    Calls Tryz.prog 72 #[u, v, t] w fun e w' => (∃ r, e = .returned r ∧ InSl w' w'.heap.size r (rep l fr to) ∧ (r = u ∨ ∀ g, r.ownBlock = some g → w.heap.size ≤ g)) ∧ Below w.heap.size w w' := by
  have HU := Lib.hid hu
  have HV := Lib.hid hv
  have HT := Lib.hid ht
  have HW := Lib.hid (without_any u v l fr w hu hv hl hf)
  obtain ⟨A, c, rfl, _⟩ := hu.form
  obtain ⟨B, d, rfl, _⟩ := hv.form
  obtain ⟨C, e, rfl, _⟩ := ht.form
  have HLn := Lib.hid (And.intro hl (And.intro hto (wo_len l fr)))
  have HRp := Lib.hid (show rep l fr to = if (wo l fr).length = l.length then l else mg (wo l fr) to from rfl)
  clear hu hv ht hl hf hto
  obtain ⟨R, hR⟩ : ∃ R, rep l fr to = R := ⟨_, rfl⟩
  rw [hR] at HRp ⊢
  clear hR
  generalize hwo : wo l fr = W at *
  clear hwo
  go_enter Tryz.func72, Tryz.ntmps72
  go_wp2_with fail
  refine HW.out.mono ?_
  rintro e w1 ⟨r, rfl, hO⟩
  have HO := Lib.hid hO
  obtain ⟨A1, c1, rfl, _⟩ := hO.sl.form
  clear hO
  by_cases he : (W.length : Int) = (l.length : Int)
  · have HF := Lib.hid (show R = l from by rw [HRp.out, if_pos (by omega)])
    go_wp2_with fail
    go_ret
    exact ⟨⟨_, rfl, by rw [HF.out]; exact HU.out.step HO.out.bel, .inl rfl⟩, HO.out.bel⟩
  · have HF := Lib.hid (show R = mg W to from by rw [HRp.out, if_neg (by omega)])
    go_wp2_with fail
    refine (merge_any _ _ W to w1 HO.out.sl (HT.out.step HO.out.bel) (by have := HLn.out; omega) HLn.out.2.1).mono ?_
    rintro e w2 ⟨r, rfl, hO2⟩
    have HO2 := Lib.hid hO2
    obtain ⟨A2, c2, rfl, _⟩ := hO2.sl.form
    clear hO2
    go_wp2_with fail
    go_ret
    exact ⟨⟨_, rfl, by rw [HF.out]; exact HO2.out.sl, .inr fun g e => Nat.le_trans HO.out.bound (HO2.out.own.lt g e).1⟩, HO.out.bel.trans (HO2.out.bel.mono HO.out.bel.size)⟩
end Go.Proofs.YtplpogonkfnafaaGreat
namespace Go.Proofs.YtplpogonkfnafaaGreat
open Go.RowKit Go.Nm

set_option maxHeartbeats 1000000 in
theorem isNaN1_any (x : Int) (w : World) : Calls Tryz.prog 89 #[.int .i64 x] w fun e w' => e = .returned (.bool false) ∧ w = w' := by
  go_enter Tryz.func89, Tryz.ntmps89
  go_wp2_with fail
  go_ret
  exact ⟨ret_b (by simp), rfl⟩
set_option maxHeartbeats 1000000 in
theorem isNaN2_any (x : Int) (w : World) : Calls Tryz.prog 81 #[.int .i64 x] w fun e w' => e = .returned (.bool false) ∧ w = w' := by
  go_enter Tryz.func81, Tryz.ntmps81
  go_wp2_with fail
  go_ret
  exact ⟨ret_b (by simp), rfl⟩
set_option maxHeartbeats 1000000 in
theorem less_any (x y : Int) (w : World) : Calls Tryz.prog 80 #[.int .i64 x, .int .i64 y] w fun e w' => e = .returned (.bool (decide (x < y))) ∧ w = w' := by
  have HN := Lib.hid (fun w => isNaN1_any x w)
  go_enter Tryz.func80, Tryz.ntmps80
  go_wp2_with fail
  refine (HN.out _).mono ?_
  rintro e w1 ⟨rfl, rfl⟩
  go_wp2_with fail
  go_ret
  exact ⟨ret_b (by simp), rfl⟩
set_option maxRecDepth 100000 in
set_option maxHeartbeats 4000000 in
theorem search_any (u : Value) (L : List Int) (x : Int) (w : World) (hu : InSl w w.heap.size u L) (hs : Inc L) (hn : L.length ≤ 1000000) :
    Calls Tryz.prog 69 #[u, .int .i64 x] w fun e w' => (∃ p : Int, e = .returned (.tuple #[.int .i64 p, .bool (decide (x ∈ L))])) ∧ w = w' := by
  obtain ⟨A, c, rfl, hc, hcm, hA⟩ := hu
  have HA := Lib.hid hA
  have HS := Lib.hid hs
  clear hA hs hc hcm
  generalize hnl : L.length = n at *
  have HL := Lib.hid hnl
  clear hnl
  obtain ⟨r, hr⟩ : ∃ r, decide (x ∈ L) = r := ⟨_, rfl⟩
  rw [hr]
  have HR := Lib.hid hr
  clear hr
  go_enter Tryz.func69, Tryz.ntmps69
  go_wp2_with fail
  go_loop [7, 8] (fun a b => ∃ i j : Nat, a = .int .i64 (i : Int) ∧ b = .int .i64 (j : Int) ∧ i ≤ j ∧ j ≤ n ∧ (∀ k y, k < i → L[k]? = some y → y < x) ∧ (∀ k y, j ≤ k → L[k]? = some y → x ≤ y)) (fun a b => (intOf b - intOf a).toNat)
  case atStart => exact ⟨0, n, rfl, rfl, by omega, by omega, fun k y h => absurd h (by omega), fun k y h e => by have := (List.getElem?_eq_some_iff.1 e).1; have := HL.out; omega⟩
  case round =>
    obtain ⟨i, j, rfl, rfl, hij, hjn, hlo, hhi⟩ := hrel
    have HQ := Lib.hid (And.intro hlo hhi)
    clear hlo hhi
    by_cases hlt : i < j
    · obtain ⟨h, hh⟩ : ∃ h, (i + j) / 2 = h := ⟨_, rfl⟩
      have hh1 : i ≤ h := by omega
      have hh2 : h < j := by omega
      have hw : IntKind.i64.wrap ((i : Int) + (j : Int)) = ((i + j : Nat) : Int) := by rw [IntWalk.i64_in _ (by omega)]; omega
      obtain ⟨y, ad, hy, rfl, hb, hcy⟩ := HA.out.at_ (i := h) HL.out (by omega)
      have HY := Lib.hid hy
      have HLs := Lib.hid (fun w => less_any y x w)
      clear hy
      by_cases hyx : y < x
      · rw [decide_eq_true hyx] at HLs
        go_wp2_with fail
        refine (HLs.out _).mono ?_
        rintro e w1 ⟨rfl, rfl⟩
        go_wp2_with fail
        have HN := Lib.hid (show ∀ k z, k < h + 1 → L[k]? = some z → z < x from fun k z hk hz => by
          have := inc_le HS.out hz HY.out (by omega); omega)
        go_round
        case rel => exact ⟨h + 1, j, by go_num, rfl, by omega, hjn, HN.out, HQ.out.2⟩
        case measure => simp [intOf]; omega
      · rw [decide_eq_false hyx] at HLs
        go_wp2_with fail
        refine (HLs.out _).mono ?_
        rintro e w1 ⟨rfl, rfl⟩
        go_wp2_with fail
        have HN := Lib.hid (show ∀ k z, h ≤ k → L[k]? = some z → x ≤ z from fun k z hk hz => by
          have := inc_le HS.out HY.out hz hk; omega)
        go_round
        case rel => exact ⟨i, h, rfl, by go_num, by omega, by omega, HQ.out.1, HN.out⟩
        case measure => simp [intOf]; omega
    · obtain rfl : i = j := by omega
      by_cases hin : i < n
      · obtain ⟨y, ad, hy, rfl, hb, hcy⟩ := HA.out.at_ (i := i) HL.out hin
        by_cases hyx : y = x
        · have HF := Lib.hid (show r = true from by rw [← HR.out, decide_eq_true_eq, ← hyx]; exact List.mem_of_getElem? hy)
          clear hy
          subst hyx
          go_wp2_with fail
          go_ret2
          exact ⟨⟨_, by rw [HF.out]; rfl⟩, rfl⟩
        · have HF := Lib.hid (show r = false from by
            rw [← HR.out, decide_eq_false_iff_not]
            intro hm
            obtain ⟨k, hk, e⟩ := List.getElem_of_mem hm
            have hkx : L[k]? = some x := by rw [← e]; exact List.getElem?_eq_getElem hk
            rcases Nat.lt_or_ge k i with h | h
            · have := HQ.out.1 k x h hkx; omega
            · have h1 := HQ.out.2 i y (Nat.le_refl _) hy
              have h2 := inc_le HS.out hy hkx h
              omega)
          have HN := Lib.hid (fun (z : Int) (w : World) => isNaN2_any z w)
          have hb2 : (y == x) = false := by simpa using hyx
          clear hy
          go_wp2_with fail
          refine (HN.out _ _).mono ?_
          rintro e w1 ⟨rfl, rfl⟩
          go_wp2_with fail
          go_ret2
          exact ⟨⟨_, by rw [HF.out]; rfl⟩, rfl⟩
      · have HF := Lib.hid (show r = false from by
          rw [← HR.out, decide_eq_false_iff_not]
          intro hm
          obtain ⟨k, hk, e⟩ := List.getElem_of_mem hm
          have hkx : L[k]? = some x := by rw [← e]; exact List.getElem?_eq_getElem hk
          have := HQ.out.1 k x (by have := HL.out; omega) hkx; omega)
        go_wp2_with fail
        go_ret2
        exact ⟨⟨_, by rw [HF.out]; rfl⟩, rfl⟩
set_option maxHeartbeats 2000000 in
theorem has_any (u : Value) (L : List Int) (x : Int) (w : World) (hu : InSl w w.heap.size u L) (hs : Inc L) (hn : L.length ≤ 1000000) :
    Calls Tryz.prog 42 #[u, .int .i64 x] w fun e w' => e = .returned (.bool (decide (x ∈ L))) ∧ w = w' := by
  have HC := Lib.hid (search_any u L x w hu hs hn)
  obtain ⟨A, c, rfl, _⟩ := hu.form
  clear hu hs hn
  generalize decide (x ∈ L) = r at *
  go_enter Tryz.func42, Tryz.ntmps42
  go_wp2_with fail
  refine HC.out.mono ?_
  rintro e w1 ⟨⟨p, rfl⟩, rfl⟩
  go_wp2_with fail
  go_ret
  exact ⟨rfl, rfl⟩
set_option maxHeartbeats 2000000 in
theorem hasAll_any (u v : Value) (L M : List Int) (w : World) (hu : InSl w w.heap.size u L) (hv : InSl w w.heap.size v M) (hn : L.length ≤ 1000000) (hm : M.length ≤ 1000000) :
    Calls Tryz.prog 58 #[u, v] w fun e w' => e = .returned (.bool (decide (wo M L = []))) ∧ Below w.heap.size w w' := by
  have HC := Lib.hid (without_any v u M L w hv hu hm hn)
  obtain ⟨A, c, rfl, _⟩ := hu.form
  obtain ⟨B, d, rfl, _⟩ := hv.form
  clear hu hv hn
  obtain ⟨b, hb⟩ : ∃ b, decide (wo M L = []) = b := ⟨_, rfl⟩
  rw [hb]
  have HBb := Lib.hid hb
  clear hb
  generalize wo M L = W at *
  go_enter Tryz.func58, Tryz.ntmps58
  go_wp2_with fail
  refine HC.out.mono ?_
  rintro e w1 ⟨r, rfl, hO⟩
  have HB := Lib.hid hO.bel
  obtain ⟨A1, c1, rfl, _⟩ := hO.sl.form
  have HF := Lib.hid (show ((W.length : Int) == 0) = b from by rw [← HBb.out, Bool.eq_iff_iff, decide_eq_true_iff, beq_iff_eq, ← List.length_eq_zero_iff]; omega)
  clear hO
  generalize W.length = m at *
  go_wp2_with fail
  go_ret
  exact ⟨ret_b HF.out, HB.out⟩
end Go.Proofs.YtplpogonkfnafaaGreat
namespace Go.Proofs.YtplpogonkfnafaaGreat
open Go.RowKit Go.Nm

/-- from the address on lie the changes, in memory below block B -/
def ChA (w : World) (B : Nat) (A : Option Addr) (L : List Ch) : Prop :=
  ∀ (i : Nat) (x : Ch), L[i]? = some x → ∃ ad vf vt, A = some ad ∧ ad.block < B ∧ w.cell? (ad.add (i * 3)) = some (.int .i64 x.yr) ∧
    w.cell? ⟨(ad.add (i * 3)).block, (ad.add (i * 3)).off + 1, none⟩ = some vf ∧ w.cell? ⟨(ad.add (i * 3)).block, (ad.add (i * 3)).off + 2, none⟩ = some vt ∧ InSl w B vf x.fr ∧ InSl w B vt x.to
def ChSl (w : World) (B : Nat) (v : Value) (L : List Ch) : Prop := ∃ A c, v = .slice A L.length c ∧ ChA w B A L
/-- the value is a book -/
def BkV (w : World) (v : Value) (b : Bk) (v2 : Value) : Prop := ∃ v1, v = .agg #[v1, v2] ∧ InSl w w.heap.size v1 b.first ∧ ChSl w w.heap.size v2 b.chs
/-- a book is small -/
def Sm (b : Bk) : Prop := b.first.length ≤ 1000 ∧ b.chs.length ≤ 1000 ∧ ∀ x ∈ b.chs, x.fr.length ≤ 1000 ∧ x.to.length ≤ 1000
/-- values are slices of these lists -/
def VsA (w : World) (B : Nat) (vals : List Value) (LL : List (List Int)) : Prop := vals.length = LL.length ∧ ∀ (i : Nat) (v : Value) (L : List Int), vals[i]? = some v → LL[i]? = some L → InSl w B v L
def VsSl (w : World) (B : Nat) (v : Value) (LL : List (List Int)) : Prop :=
  ∃ A c vals, v = .slice A LL.length c ∧ VsA w B vals LL ∧ ∀ (i : Nat) (u : Value), vals[i]? = some u → ∃ ad, A = some ad ∧ ad.block < B ∧ w.cell? (ad.add i) = some u
def HsV (w : World) (v : Value) (b : Bk) (vc : Value) : Prop := ∃ vs, v = .agg #[vs, vc] ∧ VsSl w w.heap.size vs (vers b) ∧ ChSl w w.heap.size vc b.chs
section
variable {w w' : World} {B B' : Nat} {A : Option Addr} {L : List Ch} {v : Value} {LL : List (List Int)} {vals : List Value} {b : Bk}
theorem ChA.below (h : ChA w B A L) (hb : Below B w w') : ChA w' B A L := by
  intro i x hx
  obtain ⟨ad, vf, vt, ha, hB, h1, h2, h3, h4, h5⟩ := h i x hx
  exact ⟨ad, vf, vt, ha, hB, (hb.cell (by rw [add_block]; exact hB)).trans h1, (hb.cell (p := ⟨(ad.add (i * 3)).block, _, none⟩) (by show (ad.add (i * 3)).block < B; rw [add_block]; exact hB)).trans h2, (hb.cell (p := ⟨(ad.add (i * 3)).block, _, none⟩) (by show (ad.add (i * 3)).block < B; rw [add_block]; exact hB)).trans h3, h4.below hb, h5.below hb⟩
theorem ChA.mono (h : ChA w B A L) (hB : B ≤ B') : ChA w B' A L := by
  intro i x hx
  obtain ⟨ad, vf, vt, ha, hb, h1, h2, h3, h4, h5⟩ := h i x hx
  exact ⟨ad, vf, vt, ha, by omega, h1, h2, h3, h4.mono hB, h5.mono hB⟩
theorem ChSl.below (h : ChSl w B v L) (hb : Below B w w') : ChSl w' B v L := by
  obtain ⟨A, c, e, h⟩ := h; exact ⟨A, c, e, h.below hb⟩
theorem ChSl.mono (h : ChSl w B v L) (hB : B ≤ B') : ChSl w B' v L := by
  obtain ⟨A, c, e, h⟩ := h; exact ⟨A, c, e, h.mono hB⟩
theorem ChSl.step (h : ChSl w w.heap.size v L) (hb : Below w.heap.size w w') : ChSl w' w'.heap.size v L := (h.below hb).mono hb.size
theorem BkV.step {vc : Value} (h : BkV w v b vc) (hb : Below w.heap.size w w') : BkV w' v b vc := by
  obtain ⟨v1, e, h1, h2⟩ := h; exact ⟨v1, e, h1.step hb, h2.step hb⟩
theorem VsA.below (h : VsA w B vals LL) (hb : Below B w w') : VsA w' B vals LL := ⟨h.1, fun i v L h1 h2 => (h.2 i v L h1 h2).below hb⟩
theorem VsA.mono (h : VsA w B vals LL) (hB : B ≤ B') : VsA w B' vals LL := ⟨h.1, fun i v L h1 h2 => (h.2 i v L h1 h2).mono hB⟩
theorem VsSl.below (h : VsSl w B v LL) (hb : Below B w w') : VsSl w' B v LL := by
  obtain ⟨A, c, vals, e, h1, h2⟩ := h
  exact ⟨A, c, vals, e, h1.below hb, fun i u hu => by
    obtain ⟨ad, ha, hB, hc⟩ := h2 i u hu
    exact ⟨ad, ha, hB, (hb.cell (by rw [add_block]; exact hB)).trans hc⟩⟩
theorem VsSl.mono (h : VsSl w B v LL) (hB : B ≤ B') : VsSl w B' v LL := by
  obtain ⟨A, c, vals, e, h1, h2⟩ := h
  exact ⟨A, c, vals, e, h1.mono hB, fun i u hu => by
    obtain ⟨ad, ha, hb, hc⟩ := h2 i u hu
    exact ⟨ad, ha, by omega, hc⟩⟩
theorem HsV.step {vc : Value} (h : HsV w v b vc) (hb : Below w.heap.size w w') : HsV w' v b vc := by
  obtain ⟨vs, e, h1, h2⟩ := h; exact ⟨vs, e, (h1.below hb).mono hb.size, h2.step hb⟩
/-- the version that is read -/
theorem VsSl.at_ {n c : Nat} (h : VsSl w B (.slice A n c) LL) {i : Nat} (hi : i < n) : ∃ ad u L, A = some ad ∧ ad.block < B ∧ LL[i]? = some L ∧ w.cell? (ad.add i) = some u ∧ InSl w B u L := by
  obtain ⟨A', c', vals, e, h1, h2⟩ := h
  injection e with e1 e2 e3
  subst e1; subst e2
  have hv : i < vals.length := by rw [h1.1]; exact hi
  obtain ⟨ad, ha, hb, hc⟩ := h2 i _ (List.getElem?_eq_getElem hv)
  exact ⟨ad, _, LL[i], ha, hb, List.getElem?_eq_getElem hi, hc, h1.2 i _ _ (List.getElem?_eq_getElem hv) (List.getElem?_eq_getElem hi)⟩
theorem VsSl.form (h : VsSl w B v LL) : ∃ A c, v = .slice A LL.length c := by
  obtain ⟨A, c, vals, e, _⟩ := h; exact ⟨A, c, e⟩
theorem ChSl.form (h : ChSl w B v L) : ∃ A c, v = .slice A L.length c := by
  obtain ⟨A, c, e, _⟩ := h; exact ⟨A, c, e⟩
end
end Go.Proofs.YtplpogonkfnafaaGreat
namespace Go.Proofs.YtplpogonkfnafaaGreat
open Go.ChangeShapes Go.WideShapes Go.RowKit Go.Nm Go.Deep Go.Joins

theorem ownKnobNone : ownKnob Tryz.prog.godebug = none := by kernel_rfl
theorem laidOut : laidOutB Tryz.prog = true := by kernel_rfl
/-- a list out of its members -/
theorem list_of {α : Type} {P : Nat → α → Prop} : ∀ n, (∀ i, i < n → ∃ x, P i x) → ∃ L : List α, L.length = n ∧ ∀ i x, L[i]? = some x → P i x
  | 0, _ => ⟨[], rfl, fun i x h => by simp at h⟩
  | n + 1, h => by
    obtain ⟨L, hl, hL⟩ := list_of n fun i hi => h i (by omega)
    obtain ⟨x, hx⟩ := h n (by omega)
    refine ⟨L ++ [x], by simp [hl], fun i y hy => ?_⟩
    rcases Nat.lt_or_ge i L.length with hi | hi
    · rw [List.getElem?_append_left hi] at hy; exact hL i y hy
    · rw [List.getElem?_append_right hi] at hy
      have h0 : i - L.length = 0 := by
        have := (List.getElem?_eq_some_iff.1 hy).1
        simp at this; omega
      rw [h0] at hy
      simp at hy
      subst hy
      rw [show i = n by omega]; exact hx
section
variable {H : Type} {enc : TypeId × Value → H} {W : World}
set_option maxRecDepth 100000 in
theorem open_list {v : Value} {n : Nat} {x : DataW H × List MemPlace} (h : DataW.trod enc Tryz.prog W 0 (fun _ => true) true n 22 [v] = some x) : ∃ L, InSl W W.heap.size v L := by
  rcases open_ints Tryz.underlying22 Tryz.underlying3 (by kernel_rfl) h with ⟨e, _⟩ | ⟨a, len, cap, zs, e, _, hlc, hcm, hzl, _, hc, _⟩
  · simp only [List.cons.injEq, and_true] at e
    subst e
    exact ⟨[], InSl.nil _ _⟩
  · simp only [List.cons.injEq, and_true] at e
    subst e
    rw [if_pos rfl] at hzl
    have hl : (zs.take len).length = len := by rw [List.length_take]; omega
    refine ⟨zs.take len, _, cap, by rw [hl], by omega, hcm, fun i y hy => ?_⟩
    rw [List.getElem?_take] at hy
    split at hy
    · have hi := (List.getElem?_eq_some_iff.1 hy).1
      have h1 := hc i hi
      have e : zs.getD i 0 = y := by rw [List.getD_eq_getElem?_getD, hy]; rfl
      rw [e] at h1
      have hb := World.block_lt_of_cell? _ _ h1
      rw [add_block] at hb
      exact ⟨a, rfl, hb, h1⟩
    · cases hy
set_option maxRecDepth 100000 in
theorem open_changes {v : Value} {n : Nat} {x : DataW H × List MemPlace} (h : DataW.trod enc Tryz.prog W 0 (fun _ => true) true n 23 [v] = some x) : ∃ L, ChSl W W.heap.size v L := by
  rcases open_slice Tryz.underlying23 h with ⟨e, _⟩ | ⟨a, len, cap, m, k, D, Pl, e, _, hlc, _, hm, _, hi⟩
  · simp only [List.cons.injEq, and_true] at e
    subst e
    exact ⟨[], none, 0, rfl, fun i c hc => by simp at hc⟩
  · simp only [List.cons.injEq, and_true] at e
    subst e
    rw [if_pos rfl] at hm
    have hC : Tryz.prog.cellsOf 52 = 3 := by kernel_rfl
    have hCi : Tryz.prog.cellsOf 3 = 1 := by kernel_rfl
    have hCs : Tryz.prog.cellsOf 22 = 1 := by kernel_rfl
    obtain ⟨L, hl, hL⟩ := list_of (P := fun i (c : Ch) => ∃ vf vt, a.block < W.heap.size ∧ W.cell? (a.add (i * 3)) = some (.int .i64 c.yr) ∧
      W.cell? ⟨(a.add (i * 3)).block, (a.add (i * 3)).off + 1, none⟩ = some vf ∧ W.cell? ⟨(a.add (i * 3)).block, (a.add (i * 3)).off + 2, none⟩ = some vt ∧ InSl W W.heap.size vf c.fr ∧ InSl W W.heap.size vt c.to) len (fun i hil => by
      obtain ⟨cs, hcs, ht⟩ := hi i (by omega)
      rw [hC] at hcs
      obtain ⟨_, hcl, hat⟩ := World.cells?_some hcs
      obtain ⟨ys, j, _, _, _, hyl, hf⟩ := DataW.trod_struct Tryz.underlying52 ht
      match cs, hcl, ys, hyl with
      | [c0, c1, c2], _, [y0, y1, y2], _ =>
        have g0 := hf 0 _ rfl
        have g1 := hf 1 _ rfl
        have g2 := hf 2 _ rfl
        simp [hCi, hCs] at g0 g1 g2
        obtain ⟨z, e0, _, _⟩ := DataW.trod_int Tryz.underlying3 g0
        simp only [List.cons.injEq, and_true] at e0
        subst e0
        obtain ⟨Lf, hLf⟩ := open_list g1
        obtain ⟨Lt, hLt⟩ := open_list g2
        have a0 := hat 0 (by decide)
        have a1 := hat 1 (by decide)
        have a2 := hat 2 (by decide)
        simp only [List.getElem?_cons_zero, List.getElem?_cons_succ] at a0 a1 a2
        rw [show ((a.add (i * 3)).add 0) = a.add (i * 3) from by simp [Addr.add]] at a0
        have hb := World.block_lt_of_cell? _ _ a0
        rw [add_block] at hb
        exact ⟨⟨z, Lf, Lt⟩, c1, c2, hb, a0, a1, a2, hLf, hLt⟩)
    refine ⟨L, _, cap, by rw [hl], fun i c hc => ?_⟩
    obtain ⟨vf, vt, h1, h2⟩ := hL i c hc
    exact ⟨a, vf, vt, rfl, h1, h2⟩
set_option maxRecDepth 100000 in
/-- a book that came in -/
theorem open_book {v : Value} {d : DataW H} {p : List MemPlace} {base : Nat} (hval : Value.okWide Tryz.prog W .any base 25 v) (h : DataW.Trod enc Tryz.prog W 0 (fun _ => true) true 25 v d p) : ∃ b vc, BkV W v b vc := by
  obtain ⟨v0, v1, y0, y1, n, rfl, _, _, g0, g1⟩ := open_agg2 Tryz.underlying25 (by kernel_rfl) (by kernel_rfl) hval h
  obtain ⟨F, hF⟩ := open_list g0
  obtain ⟨C, hC⟩ := open_changes g1
  exact ⟨⟨F, C⟩, v1, v0, rfl, hF, hC⟩
set_option maxRecDepth 100000 in
/-- a question that came in -/
theorem open_ask {v : Value} {d : DataW H} {p : List MemPlace} {base : Nat} (hval : Value.okWide Tryz.prog W .any base 27 v) (h : DataW.Trod enc Tryz.prog W 0 (fun _ => true) true 27 v d p) :
    ∃ aV aW aX aY aR u L, v = .agg #[.int .i64 aV, .int .i64 aW, .int .i64 aX, .int .i64 aY, .int .i64 aR, u] ∧ InSl W W.heap.size u L := by
  have hC : Tryz.prog.cellsOf 27 = 6 := by kernel_rfl
  have hCi : Tryz.prog.cellsOf 3 = 1 := by kernel_rfl
  have hCs : Tryz.prog.cellsOf 22 = 1 := by kernel_rfl
  obtain ⟨cs, rfl, hsz⟩ := okWide_struct Tryz.underlying27 hval
  rw [hC] at hsz
  obtain ⟨fuel, hf0⟩ := h
  obtain ⟨ys, j, _, _, _, hyl, hf⟩ := DataW.trod_struct Tryz.underlying27 hf0
  obtain ⟨cl⟩ := cs
  match cl, hsz, ys, hyl with
  | [c0, c1, c2, c3, c4, c5], _, [y0, y1, y2, y3, y4, y5], _ =>
    have g0 := hf 0 _ rfl
    have g1 := hf 1 _ rfl
    have g2 := hf 2 _ rfl
    have g3 := hf 3 _ rfl
    have g4 := hf 4 _ rfl
    have g5 := hf 5 _ rfl
    simp [hCi, hCs, Value.cells] at g0 g1 g2 g3 g4 g5
    obtain ⟨a0, e0, _, _⟩ := DataW.trod_int Tryz.underlying3 g0
    obtain ⟨a1, e1, _, _⟩ := DataW.trod_int Tryz.underlying3 g1
    obtain ⟨a2, e2, _, _⟩ := DataW.trod_int Tryz.underlying3 g2
    obtain ⟨a3, e3, _, _⟩ := DataW.trod_int Tryz.underlying3 g3
    obtain ⟨a4, e4, _, _⟩ := DataW.trod_int Tryz.underlying3 g4
    simp only [List.cons.injEq, and_true] at e0 e1 e2 e3 e4
    subst e0 e1 e2 e3 e4
    obtain ⟨L, hL⟩ := open_list g5
    exact ⟨a0, a1, a2, a3, a4, c5, L, rfl, hL⟩
end
/-- the last step: the law has answered true, and the arguments read as they read -/
theorem law_post {H : Type} {enc : TypeId × Value → H} {P : Program} {f : Func} {s : ChangeSpec} {W W' : World} {args : Array Value} {v : Value} {ds : List (DataW H)} {before : List MemPlace} (hW : DataW.Whole enc P f.params.toList s.vars false W args.toList ds [] before)
    (hres : DataW.TrodAll enc P W' W.heap.size (fun _ => false) false f.resultTypes.toList (v.resultList f.resultTypes.size) (s.fn H (ds ++ [])).results [])
    (hargs : DataW.TrodAll enc P W' 0 (fun b => decide (b < W.heap.size)) true f.params.toList args.toList (s.fn H (ds ++ [])).args before)
    (hvars : DataW.TrodVars enc P W' (fun b => decide (b < W.heap.size)) s.vars (s.fn H (ds ++ [])).vars []) (hb : Below W.heap.size W W') : s.post enc P f false true false false W args v W' :=
  ⟨ds, [], before, [], before, [], hW, hres, hargs, hvars, World.keptBut_mono (fun _ hp => ⟨hp, .inr (.inl hp)⟩) (hb.frame (· ∈ before)), fun h => by cases h⟩
end Go.Proofs.YtplpogonkfnafaaGreat
