/- Parse: the program. -/
import Derived.Test.YtijidcigfdblaaaGreatDoorShTh
import Derived.StillTailTactics
import Derived.Test.YtijidcigfdblaaaGreatDoorShRv
namespace Go.Sh
/-- what holds of the reader after n lines -/
structure RdOk (r : Rd) (n : Nat) : Prop where
  pg : r.tk = 0 → r.pg = pg0
  t0 : 0 ≤ r.tk
  t1 : r.tk ≤ n
  len : r.pg.ls.length ≤ 200
theorem rdOk_0 : RdOk rd0 0 := ⟨fun _ => rfl, Int.le_refl _, Int.le_refl _, by simp [rd0, pg0]⟩
theorem rdOk_step {r r' : Rd} {n : Nat} {l : List UInt8} (h : RdOk r n) (hs : rdStep r l = some r') : RdOk r' (n + 1) := by
  have h1 := h.t0
  have h2 := h.t1
  have h3 := h.len
  unfold rdStep at hs
  split at hs
  · cases hs
  · split at hs
    · split at hs
      · cases hs
      · rename_i p hp
        injection hs with hs
        subst hs
        have hl : p.ls.length = 0 := by
          unfold hdR at hp
          split at hp
          · cases hp
          · split at hp
            · injection hp with hp; subst hp; rfl
            · cases hp
        exact ⟨fun e => by simp only at e; omega, by simp only; omega, by simp only; omega, by simp only; omega⟩
    · split at hs
      · injection hs with hs
        subst hs
        exact ⟨fun e => by simp only at e; omega, by simp only; omega, by simp only; omega, h3⟩
      · split at hs
        · cases hs
        · split at hs
          · cases hs
          · injection hs with hs
            subst hs
            exact ⟨fun e => by simp only at e; omega, by simp only; omega, by simp only; omega, by simp [Pg.add]; omega⟩
theorem run_next {pre : List (List UInt8 × Bool)} {r : Rd} {line : List UInt8} {en : Bool} (h : rdRun rd0 pre = (r, true)) : rdRun rd0 (pre ++ [(line, en)]) = if en = true then (match rdStep r line with | none => (r, false) | some r' => (r', true)) else (r, false) := by
  rw [rdRun_app _ h, rdRun_cons]
  rfl
theorem lines_len : ∀ (l : List (List UInt8)), (endsL l).length ≤ l.length
  | [] => by simp [endsL]
  | f :: [] => by simp only [endsL]; split <;> simp
  | f :: g :: r => by
    have := lines_len (g :: r)
    rw [ends_cons, List.length_cons, List.length_cons]
    omega
end Go.Sh
namespace Go.Proofs.YtijidcigfdblaaaGreatDoor
open Go.RowKit Go.Nm Go.Sh Go.Plc Go.Shelf
attribute [local go_sem] Oper.semAt_some

theorem own_cells {X : World} {B n sz k : Nat} {e : TypeId} {v : Value} {xs : List Value} (h : X.ownsRow B e sz v n xs) (hk : v.ownBlock = some k) : ∃ cs t fr, X.heap[k]? = some (.cells cs t fr) := by
  rcases h.2 with ⟨e1, _⟩ | ⟨g, cap, cur, e1, _, hg, _⟩
  · rw [e1] at hk; cases hk
  · rw [e1] at hk; injection hk with hk; subst hk; exact ⟨_, _, _, hg⟩
theorem InSl.veil {X Y : World} {v : Value} {L : List Int} {row : Option Nat} (h : InSl X X.heap.size v L) (hg : X.grownBy Y row) (hr : ∀ r, row = some r → ∃ o : Obj, X.heap[r]? = some o ∧ o.isCells = false) : InSl Y Y.heap.size v L := by
  obtain ⟨A, c, rfl, h1, h2, h3⟩ := h
  refine ⟨A, c, rfl, h1, h2, fun i x hx => ?_⟩
  obtain ⟨ad, rfl, hb, hc⟩ := h3 i x hx
  refine ⟨ad, rfl, Nat.lt_of_lt_of_le hb hg.size, (World.cell?_of_block (hg.block _ (by rw [add_block]; exact hb) fun e => ?_)).trans hc⟩
  obtain ⟨o, ho, hv⟩ := hr _ e.symm
  unfold World.cell? at hc
  rw [ho] at hc
  cases o <;> simp [Obj.isCells] at hv hc
theorem LoI.veil {W : World} {T : Nat} {L : List Ln} {vals : List Value} {vs : Value} {X Y : World} {row : Option Nat} (h : LoI W T L vals vs X) (hg : X.grownBy Y row) (h0 : ∀ r, row = some r → W.heap.size ≤ r) (hr : ∀ r, row = some r → ∃ o : Obj, X.heap[r]? = some o ∧ o.isCells = false) : LoI W T L vals vs Y := by
  refine ⟨h.bel.grown hg h.bel.size h0, h.own.kept hg ?_, h.len, fun i x hx => ?_, h.ot, Nat.le_trans h.tb hg.size⟩
  · cases hv : vs.ownBlock with
    | none => exact .inl rfl
    | some g =>
      refine .inr fun e => ?_
      obtain ⟨o, ho, hv2⟩ := hr g e.symm
      obtain ⟨cs, t, fr, hc⟩ := own_cells h.own hv
      rw [hc] at ho; injection ho with ho; subst ho; cases hv2
  · obtain ⟨vm, k⟩ := h.ele i x hx
    exact ⟨vm, k.c0, k.c1, k.c2, k.c3, k.sl.veil hg hr, fun g e => ⟨(k.off g e).1, Nat.lt_of_lt_of_le (k.off g e).2 hg.size⟩, k.ti⟩
theorem RdI.veil {W : World} {rb T : Nat} {r : Rd} {vs : Value} {X Y : World} {row : Option Nat} (h : RdI W rb T r vs X) (hg : X.grownBy Y row) (h0 : ∀ r, row = some r → W.heap.size ≤ r) (hr : ∀ r, row = some r → ∃ o : Obj, X.heap[r]? = some o ∧ o.isCells = false) : RdI W rb T r vs Y := by
  obtain ⟨vals, hl⟩ := h.lo
  refine ⟨(hg.block _ h.lt fun e => ?_).trans h.box, ⟨vals, hl.veil hg h0 hr⟩, h.b0, h.b1⟩
  obtain ⟨o, ho, hv⟩ := hr _ e.symm
  rw [h.box] at ho; injection ho with ho; subst ho; cases hv
/-- the boxes beside the reader -/
structure PsB (w : World) (s : List UInt8) (X : World) : Prop where
  b0 : X.heap[w.heap.size]? = some (.cells pgZ 28)
  b1 : X.heap[w.heap.size + 1]? = some (.cells #[.int .i64 0] 41)
  b2 : X.heap[w.heap.size + 2]? = some (.cells #[.int .i64 0] 3)
  b4 : X.heap[w.heap.size + 4]? = some (.cells #[str s] 9)
theorem PsB.keep {w : World} {s : List UInt8} {X Y : World} (h : PsB w s X) (hk : ∀ k, k < w.heap.size + 5 → k ≠ w.heap.size + 3 → Y.heap[k]? = X.heap[k]?) : PsB w s Y :=
  ⟨(hk _ (by omega) (by omega)).trans h.b0, (hk _ (by omega) (by omega)).trans h.b1, (hk _ (by omega) (by omega)).trans h.b2, (hk _ (by omega) (by omega)).trans h.b4⟩
/-- after some lines -/
structure PsI (w : World) (s : List UInt8) (pre : List (List UInt8 × Bool)) (ow : Option Nat) (r : Rd) (vs : Value) (X : World) : Prop where
  rd : RdI w (w.heap.size + 3) (w.heap.size + 5) r vs X
  bx : PsB w s X
  ok : RdOk r pre.length
  run : rdRun rd0 pre = (r, true)
  own : ow = vs.ownBlock
/-- at the end, by an error -/
structure PsX (w : World) (s : List UInt8) (n : Int) (X : World) : Prop where
  bel : Below w.heap.size w X
  b0 : X.heap[w.heap.size]? = some (.cells pgZ 28)
  b1 : X.heap[w.heap.size + 1]? = some (.cells #[.int .i64 41] 41)
  b2 : X.heap[w.heap.size + 2]? = some (.cells #[.int .i64 n] 3)
  run : ∃ r, (rdRun rd0 (linesL s) = (r, false) ∨ (rdRun rd0 (linesL s) = (r, true) ∧ r.dn = false)) ∧ n = r.tk + 1
theorem PsX.res {w : World} {s : List UInt8} {n : Int} {X : World} (h : PsX w s n X) (hl : ¬ 65536 < s.length) : prsE s = 41 ∧ prsN s = n ∧ prsP s = pg0 := by
  obtain ⟨r, hr, hn⟩ := h.run
  have he : prsE s = 41 := by
    unfold prsE
    rw [if_neg hl]
    rcases hr with hr | ⟨hr, hd⟩
    · rw [if_neg (by rw [hr]; simp)]
    · rw [if_neg (by rw [hr]; simp [hd])]
  refine ⟨he, ?_, ?_⟩
  · unfold prsN
    rw [if_pos he, hn]
    rcases hr with hr | ⟨hr, _⟩ <;> rw [hr]
  · unfold prsP
    rw [if_neg (by rw [he]; decide)]
theorem PsX.grown {w : World} {s : List UInt8} {n : Int} {X Y : World} {row : Option Nat} (h : PsX w s n X) (hg : X.grownBy Y row) (hr : ∀ r, row = some r → w.heap.size + 3 ≤ r) : PsX w s n Y := by
  have hne : ∀ k, k < w.heap.size + 3 → some k ≠ row := fun k hk e => by have := hr k e.symm; omega
  exact ⟨h.bel.grown hg h.bel.size (fun r e => by have := hr r e; omega), (hg.block _ (Array.getElem?_eq_some_iff.1 h.b0).1 (hne _ (by omega))).trans h.b0, (hg.block _ (Array.getElem?_eq_some_iff.1 h.b1).1 (hne _ (by omega))).trans h.b1, (hg.block _ (Array.getElem?_eq_some_iff.1 h.b2).1 (hne _ (by omega))).trans h.b2, h.run⟩
theorem PsI.own_lt {w : World} {s : List UInt8} {pre : List (List UInt8 × Bool)} {ow : Option Nat} {r : Rd} {vs : Value} {X : World} (h : PsI w s pre ow r vs X) {g : Nat} (e : ow = some g) : w.heap.size + 5 ≤ g ∧ g < X.heap.size ∧ ∃ cs t fr, X.heap[g]? = some (.cells cs t fr) := by
  obtain ⟨vals, hl⟩ := h.rd.lo
  have e2 := h.own.symm.trans e
  exact ⟨hl.ot g e2, (hl.lt e2).2, own_cells hl.own e2⟩
theorem PsI.veil {w : World} {s : List UInt8} {pre : List (List UInt8 × Bool)} {ow : Option Nat} {r : Rd} {vs : Value} {X Y : World} {row : Option Nat} (h : PsI w s pre ow r vs X) (hg : X.grownBy Y row) (hr : ∀ r, row = some r → w.heap.size + 5 ≤ r ∧ ∃ o : Obj, X.heap[r]? = some o ∧ o.isCells = false) : PsI w s pre ow r vs Y := by
  have hx := (Array.getElem?_eq_some_iff.1 h.bx.b4).1
  exact ⟨h.rd.veil hg (fun r e => by have := (hr r e).1; omega) (fun r e => (hr r e).2), h.bx.keep fun k hk _ => hg.block k (by omega) (fun e => by have := (hr k e.symm).1; omega), h.ok, h.run, h.own⟩
/-- a line more -/
theorem PsI.next {w : World} {s : List UInt8} {pre : List (List UInt8 × Bool)} {ow : Option Nat} {r r' : Rd} {vs vs' : Value} {X Y : World} {line : List UInt8} (h : PsI w s pre ow r vs X) (hk : RdK (w.heap.size + 3) vs.ownBlock X Y) (hd : RdI w (w.heap.size + 3) (w.heap.size + 5) r' vs' Y) (hs : rdStep r line = some r') :
    PsI w s (pre ++ [(line, true)]) vs'.ownBlock r' vs' Y := by
  have hx := (Array.getElem?_eq_some_iff.1 h.bx.b4).1
  exact ⟨hd, h.bx.keep fun k hk2 h3 => hk.block k (by omega) h3 (fun e => by have := (h.own_lt (h.own.trans e.symm)).1; omega), by rw [List.length_append]; exact rdOk_step h.ok hs, by rw [run_next h.run, if_pos rfl, hs], rfl⟩
theorem wpIn_opaque {F : Fence} {nF : Nat} {P : Program} {c : Code} {Q : Exit → Act → World → Prop} {T : Array Value} {ds : List Deferred} {w : World} (h : ∀ t0, t0 = T → c.wpIn F nF P Q { tmps := t0, defers := ds } w) : c.wpIn F nF P Q { tmps := T, defers := ds } w := h T rfl
/-- an error is written: the parts of its region -/
structure StI (V V1 V2 V3 : World) (rb : Nat) (tk : Int) (dn : Nat → Bool) (val : Nat → Value) (X : World) : Prop where
  s0 : dn 0 = true → val 0 = .agg pgZ
  s1 : dn 1 = true → val 1 = .pointer (some ⟨rb, 10, none⟩)
  s2 : dn 2 = true → val 2 = .int .i64 tk
  s3 : dn 3 = true → val 3 = .int .i64 (tk + 1)
  m0 : dn 4 = false → X = V
  m1 : dn 4 = true → dn 5 = false → X = V1
  m2 : dn 5 = true → dn 6 = false → X = V2
  m3 : dn 6 = true → X = V3
section
variable {V V1 V2 V3 : World} {rb : Nat} {tk : Int} {dn : Nat → Bool} {val : Nat → Value} {X : World}
theorem StI.op0 (h : StI V V1 V2 V3 rb tk dn val X) : StI V V1 V2 V3 rb tk (andB dn 0) (updV val 0 (.agg pgZ)) X := ⟨fun _ => rfl, h.s1, h.s2, h.s3, h.m0, h.m1, h.m2, h.m3⟩
theorem StI.op1 (h : StI V V1 V2 V3 rb tk dn val X) : StI V V1 V2 V3 rb tk (andB dn 1) (updV val 1 (.pointer (some ⟨rb, 10, none⟩))) X := ⟨h.s0, fun _ => rfl, h.s2, h.s3, h.m0, h.m1, h.m2, h.m3⟩
theorem StI.op2 (h : StI V V1 V2 V3 rb tk dn val X) : StI V V1 V2 V3 rb tk (andB dn 2) (updV val 2 (.int .i64 tk)) X := ⟨h.s0, h.s1, fun _ => rfl, h.s3, h.m0, h.m1, h.m2, h.m3⟩
theorem StI.op3 (h : StI V V1 V2 V3 rb tk dn val X) : StI V V1 V2 V3 rb tk (andB dn 3) (updV val 3 (.int .i64 (tk + 1))) X := ⟨h.s0, h.s1, h.s2, fun _ => rfl, h.m0, h.m1, h.m2, h.m3⟩
theorem StI.op4 (h : StI V V1 V2 V3 rb tk dn val X) (n5 : dn 5 = false) (n6 : dn 6 = false) (v : Value) : StI V V1 V2 V3 rb tk (andB dn 4) (updV val 4 v) V1 := ⟨h.s0, h.s1, h.s2, h.s3, (fun n => nomatch n), fun _ _ => rfl, fun d => f_t n5 d, fun d => f_t n6 d⟩
theorem StI.op5 (h : StI V V1 V2 V3 rb tk dn val X) (y4 : dn 4 = true) (n6 : dn 6 = false) (v : Value) : StI V V1 V2 V3 rb tk (andB dn 5) (updV val 5 v) V2 := ⟨h.s0, h.s1, h.s2, h.s3, fun n => f_t n y4, (fun _ n => nomatch n), fun _ _ => rfl, fun d => f_t n6 d⟩
theorem StI.op6 (h : StI V V1 V2 V3 rb tk dn val X) (y4 : dn 4 = true) (y5 : dn 5 = true) (v : Value) : StI V V1 V2 V3 rb tk (andB dn 6) (updV val 6 v) V3 := ⟨h.s0, h.s1, h.s2, h.s3, fun n => f_t n y4, fun _ n => f_t n y5, (fun _ n => nomatch n), fun _ => rfl⟩
theorem StI.world (h : StI V V1 V2 V3 rb tk dn val X) : X = V ∨ X = V1 ∨ X = V2 ∨ X = V3 := by
  cases h4 : dn 4 with
  | false => exact .inl (h.m0 h4)
  | true =>
    cases h5 : dn 5 with
    | false => exact .inr (.inl (h.m1 h4 h5))
    | true =>
      cases h6 : dn 6 with
      | false => exact .inr (.inr (.inl (h.m2 h5 h6)))
      | true => exact .inr (.inr (.inr (h.m3 h6)))
end
/-- the worlds of an error's stores -/
structure StW (w P V V1 V2 V3 : World) (s : List UInt8) (tk : Int) : Prop where
  z0 : V.heap[w.heap.size]? = some (.cells pgZ 28)
  c1 : V1.cell? ⟨w.heap.size + 1, 0, none⟩ = some (.int .i64 0) ∧ V1.frozen? ⟨w.heap.size + 1, 0, none⟩ = false
  c2 : V2.cell? ⟨w.heap.size + 1 + 1, 0, none⟩ = some (.int .i64 0) ∧ V2.frozen? ⟨w.heap.size + 1 + 1, 0, none⟩ = false
  k0 : V.cell? ⟨w.heap.size + 1 + 1 + 1, 10, none⟩ = some (.int .i64 tk)
  k1 : V1.cell? ⟨w.heap.size + 1 + 1 + 1, 10, none⟩ = some (.int .i64 tk)
  k2 : V2.cell? ⟨w.heap.size + 1 + 1 + 1, 10, none⟩ = some (.int .i64 tk)
  k3 : V3.cell? ⟨w.heap.size + 1 + 1 + 1, 10, none⟩ = some (.int .i64 tk)
  fin : V3.heap[w.heap.size]? = some (.cells pgZ 28) ∧ V3.heap[w.heap.size + 1]? = some (.cells #[.int .i64 41] 41) ∧ V3.heap[w.heap.size + 2]? = some (.cells #[.int .i64 (tk + 1)] 3)
  oth : ∀ k, w.heap.size + 3 ≤ k → V3.heap[k]? = P.heap[k]?
  bel : Below w.heap.size w V3
  size : V3.heap.size = P.heap.size
theorem putZ_other {X : World} {g b : Nat} (h : b ≠ g) : (putZ X g).heap[b]? = X.heap[b]? := by
  unfold putZ
  rw [put_other h, put_other h, put_other h, put_other h, put_other h, put_other h, put_other h, put_other h, put_other h, put_other h]
theorem putZ_heap {X : World} {g : Nat} (h : X.heap[g]? = some (.cells pgZ 28)) : (putZ X g).heap[g]? = some (.cells pgZ 28) := by
  have h1 := put10_heap (p := pg0) (v := .slice none 0 0) h
  exact h1
theorem putZ_below {w0 w : World} {g n : Nat} (h : Below n w0 w) (hg : n ≤ g) : Below n w0 (putZ w g) := put10_below h hg pg0 (.slice none 0 0)
theorem st_worlds {w P : World} {s : List UInt8} {tk : Int} (hb : PsB w s P) (hbel : Below w.heap.size w P) (hk : P.cell? ⟨w.heap.size + 3, 10, none⟩ = some (.int .i64 tk)) : StW w P P.drew (putZ P.drew w.heap.size) ((putZ P.drew w.heap.size).setCell ⟨w.heap.size + 1, 0, none⟩ (.int .i64 41)) (((putZ P.drew w.heap.size).setCell ⟨w.heap.size + 1, 0, none⟩ (.int .i64 41)).setCell ⟨w.heap.size + 1 + 1, 0, none⟩ (.int .i64 (tk + 1))) s tk := by
  have e0 : P.drew.heap[w.heap.size]? = some (.cells pgZ 28) := hb.b0
  have e1 : (putZ P.drew w.heap.size).heap[w.heap.size + 1]? = some (.cells #[.int .i64 0] 41) := (putZ_other (by omega)).trans hb.b1
  have e2 : (putZ P.drew w.heap.size).heap[w.heap.size + 2]? = some (.cells #[.int .i64 0] 3) := (putZ_other (by omega)).trans hb.b2
  have e2' : ((putZ P.drew w.heap.size).setCell ⟨w.heap.size + 1, 0, none⟩ (.int .i64 41)).heap[w.heap.size + 2]? = some (.cells #[.int .i64 0] 3) := (put_other (by omega)).trans e2
  have k0 : P.drew.cell? ⟨w.heap.size + 3, 10, none⟩ = some (.int .i64 tk) := hk
  have k1 : (putZ P.drew w.heap.size).cell? ⟨w.heap.size + 3, 10, none⟩ = some (.int .i64 tk) := (World.cell?_of_block (putZ_other (by show w.heap.size + 3 ≠ _; omega))).trans k0
  have k2 : ((putZ P.drew w.heap.size).setCell ⟨w.heap.size + 1, 0, none⟩ (.int .i64 41)).cell? ⟨w.heap.size + 3, 10, none⟩ = some (.int .i64 tk) := (World.cell?_of_block (put_other (by show w.heap.size + 3 ≠ _; omega))).trans k1
  refine ⟨e0, ⟨cell_one e1, frozen_cells e1 0⟩, ⟨cell_one e2', frozen_cells e2' 0⟩, k0, k1, k2, (World.cell?_of_block (put_other (by show w.heap.size + 3 ≠ _; omega))).trans k2, ⟨?_, ?_, ?_⟩, fun k hk => ?_, ?_, ?_⟩
  · exact (put_other (by omega)).trans ((put_other (by omega)).trans (putZ_heap e0))
  · exact (put_other (by omega)).trans (by rw [put_cell e1]; rfl)
  · rw [show w.heap.size + 1 + 1 = w.heap.size + 2 from rfl, put_cell e2']; rfl
  · exact (put_other (by omega)).trans ((put_other (by omega)).trans (putZ_other (by omega)))
  · exact ((putZ_below (hbel.drew) (Nat.le_refl _)).setCell (by show _ ≤ _ + 1; omega) _).setCell (by show _ ≤ _ + 1 + 1; omega) _
  · unfold putZ; simp
theorem ps_start (w : World) (s : List UInt8) (w4 w5 : World) (h4 : (((w.alloc (.cells pgZ 28)).alloc (.cells #[.int .i64 0] 41)).alloc (.cells #[.int .i64 0] 3)).alloc (.cells (rdC rd0 (.slice none 0 0)) 129) = w4) (h5 : w4.alloc (.cells #[str s] 9) = w5) : PsI w s [] none rd0 (.slice none 0 0) w5 ∧ w5.heap.size = w.heap.size + 5 ∧ w4.heap.size = w.heap.size + 4 := by
  have n1 := World.alloc_heap_new w (.cells pgZ 28)
  have b1 := below_new (w := w) (.cells pgZ 28)
  obtain ⟨X1, hX1⟩ : ∃ X, w.alloc (.cells pgZ 28) = X := ⟨_, rfl⟩
  have z1 : X1.heap.size = w.heap.size + 1 := by rw [← hX1]; simp
  rw [hX1] at n1 b1 h4
  have n2 := World.alloc_heap_new X1 (.cells #[.int .i64 0] 41)
  have b2 := below_new (w := X1) (.cells #[.int .i64 0] 41)
  obtain ⟨X2, hX2⟩ : ∃ X, X1.alloc (.cells #[.int .i64 0] 41) = X := ⟨_, rfl⟩
  have z2 : X2.heap.size = w.heap.size + 2 := by rw [← hX2]; simp [z1]
  rw [hX2] at n2 b2 h4
  rw [z1] at n2
  have n3 := World.alloc_heap_new X2 (.cells #[.int .i64 0] 3)
  have b3 := below_new (w := X2) (.cells #[.int .i64 0] 3)
  obtain ⟨X3, hX3⟩ : ∃ X, X2.alloc (.cells #[.int .i64 0] 3) = X := ⟨_, rfl⟩
  have z3 : X3.heap.size = w.heap.size + 3 := by rw [← hX3]; simp [z2]
  rw [hX3] at n3 b3 h4
  rw [z2] at n3
  have n4 := World.alloc_heap_new X3 (.cells (rdC rd0 (.slice none 0 0)) 129)
  have b4 := below_new (w := X3) (.cells (rdC rd0 (.slice none 0 0)) 129)
  rw [h4] at n4 b4
  rw [z3] at n4
  have z4 : w4.heap.size = w.heap.size + 4 := by rw [← h4]; simp [z3]
  have n5 := World.alloc_heap_new w4 (.cells #[str s] 9)
  have b5 := below_new (w := w4) (.cells #[str s] 9)
  rw [h5] at n5 b5
  rw [z4] at n5
  have z5 : w5.heap.size = w.heap.size + 5 := by rw [← h5]; simp [z4]
  have hb : Below w.heap.size w w5 := b1.trans ((b2.trans ((b3.trans ((b4.trans (b5.mono b4.size)).mono b3.size)).mono b2.size)).mono b1.size)
  have m1 := (b5.block _ (by omega)).trans ((b4.block _ (by omega)).trans ((b3.block _ (by omega)).trans ((b2.block _ (by omega)).trans n1)))
  have m2 := (b5.block _ (by omega)).trans ((b4.block _ (by omega)).trans ((b3.block _ (by omega)).trans n2))
  have m3 := (b5.block _ (by omega)).trans ((b4.block _ (by omega)).trans n3)
  have m4 := (b5.block _ (by omega)).trans n4
  exact ⟨⟨⟨m4, ⟨[], LoI.start w w5 hb (by omega)⟩, by omega, by omega⟩, ⟨m1, m2, m3, n5⟩, rdOk_0, rfl, rfl⟩, z5, z4⟩
theorem RdK.below {B rb : Nat} {ow : Option Nat} {w X Y : World} (hk : RdK rb ow X Y) (h : Below B w X) (hB : B ≤ X.heap.size) (hr : B ≤ rb) (ho : ∀ g, ow = some g → B ≤ g) : Below B w Y :=
  ⟨hk.os.trans h.os, hk.tape.trans h.tape, hk.output.trans h.output, Nat.le_trans h.size hk.size, fun k hkB => (hk.block k (by omega) (by omega) (fun e => by have := ho k e.symm; omega)).trans (h.block k hkB)⟩
theorem put10_grown (X : World) (g : Nat) (p : Pg) (v : Value) : X.grownBy (put10 X g p v) (some g) := by
  unfold put10
  exact (((((((((setCell_grown' X g 0 _).trans (setCell_grown' _ g 1 _)).trans (setCell_grown' _ g 2 _)).trans (setCell_grown' _ g 3 _)).trans (setCell_grown' _ g 4 _)).trans (setCell_grown' _ g 5 _)).trans (setCell_grown' _ g 6 _)).trans (setCell_grown' _ g 7 _)).trans (setCell_grown' _ g 8 _)).trans (setCell_grown' _ g 9 _)
theorem fin_cells {w X : World} {D : Nat} {p : Pg} {vs : Value} {e n : Int} {t u : TypeId} (hD : w.heap.size + 5 ≤ D) (h0 : X.heap[w.heap.size]? = some (.cells (pgC p vs) 28)) (h1 : X.heap[w.heap.size + 1]? = some (.cells #[.int .i64 e] t)) (h2 : X.heap[w.heap.size + 2]? = some (.cells #[.int .i64 n] u)) :
    PgC (X.putObj D (.deferred none)) w.heap.size p vs ∧ (X.putObj D (.deferred none)).cell? ⟨w.heap.size + 1, 0, none⟩ = some (.int .i64 e) ∧ (X.putObj D (.deferred none)).cell? ⟨w.heap.size + 1 + 1, 0, none⟩ = some (.int .i64 n) := by
  have hk : ∀ k, k < D → (X.putObj D (.deferred none)).heap[k]? = X.heap[k]? := fun k hk => World.putObj_heap_other (by omega)
  exact ⟨pg_cells ((hk _ (by omega)).trans h0), cell_one ((hk _ (by omega)).trans h1), cell_one ((hk _ (by omega)).trans h2)⟩
theorem ps_answer {w X Y : World} {s : List UInt8} {n : Int} {D : Nat} (hX : PsX w s n X) (h65 : ¬ 65536 < s.length) (hg : X.grownBy Y (some D)) (hD : w.heap.size ≤ D) :
    (∃ vs, Ending.returned (.tuple #[pgV pg0 (.slice none 0 0), .int .i64 41, .int .i64 n]) = .returned (.tuple #[pgV (prsP s) vs, .int .i64 (prsE s), .int .i64 (prsN s)]) ∧ LnSl Y Y.heap.size vs (prsP s).ls) ∧ Below w.heap.size w Y := by
  obtain ⟨h1, h2, h3⟩ := hX.res h65
  exact ⟨⟨.slice none 0 0, by rw [h1, h2, h3], by rw [h3]; exact LnSl.nil _ _⟩, hX.bel.grown hg hX.bel.size (fun r e => by cases e; exact hD)⟩
theorem prs_done {s : List UInt8} {r : Rd} (h : rdRun rd0 (linesL s) = (r, true)) (hd : r.dn = true) (h65 : ¬ 65536 < s.length) : r.pg = prsP s ∧ prsE s = 0 ∧ prsN s = 0 := by
  have he : prsE s = 0 := by unfold prsE; rw [if_neg h65, h, if_pos ⟨rfl, hd⟩]
  refine ⟨?_, he, ?_⟩
  · unfold prsP; rw [if_pos he, h]
  · unfold prsN; rw [if_neg (by rw [he]; decide)]
set_option maxRecDepth 100000 in
set_option maxHeartbeats 16000000 in
theorem Parse_any (s : List UInt8) (w : World) (hl : s.length ≤ 1000000) (hG : GlO w) :
    Calls Tryz.prog 31 #[str s] w fun e w' => (∃ vs, e = .returned (.tuple #[pgV (prsP s) vs, .int .i64 (prsE s), .int .i64 (prsN s)]) ∧ LnSl w' w'.heap.size vs (prsP s).ls) ∧ Below w.heap.size w w' := by
  have HG := Lib.hid hG
  by_cases h65 : 65536 < s.length
  · have he : prsE s = 2 := by unfold prsE; rw [if_pos h65]
    have hr : prsN s = 0 ∧ prsP s = pg0 := ⟨by unfold prsN; rw [if_neg (by rw [he]; decide)], by unfold prsP; rw [if_neg (by rw [he]; decide)]⟩
    have HR := Lib.hid (And.intro he hr)
    obtain ⟨b, hb⟩ : ∃ b : ByteArray, (⟨s.toArray⟩ : ByteArray) = b := ⟨_, rfl⟩
    obtain ⟨n, hn⟩ : ∃ n, s.length = n := ⟨_, rfl⟩
    have hbs : b.size = n := by rw [← hb, ← hn]; rfl
    have h65i : (65536 : Int) < (n : Int) := by omega
    unfold str
    rw [hb]
    obtain ⟨X2, hX2⟩ : ∃ X, (w.alloc (.cells pgZ 28)).alloc (.cells #[.int .i64 0] 41) = X := ⟨_, rfl⟩
    have b1 := below_new (w := w) (.cells pgZ 28)
    have b2 := below_new (w := w.alloc (.cells pgZ 28)) (.cells #[.int .i64 0] 41)
    have b3 := below_new (w := X2) (.cells #[.int .i64 0] 3)
    obtain ⟨X3, hX3⟩ : ∃ X, X2.alloc (.cells #[.int .i64 0] 3) = X := ⟨_, rfl⟩
    have z1 : (w.alloc (.cells pgZ 28)).heap.size = w.heap.size + 1 := by simp
    have z2 : X2.heap.size = w.heap.size + 2 := by rw [← hX2]; simp
    rw [hX2] at b2
    rw [hX3] at b3
    have n0 : X3.heap[w.heap.size]? = some (.cells pgZ 28) := (b3.block _ (by omega)).trans ((b2.block _ (by omega)).trans (World.alloc_heap_new w _))
    have n1 : X3.heap[w.heap.size + 1]? = some (.cells #[.int .i64 0] 41) := by
      have h := World.alloc_heap_new (w.alloc (.cells pgZ 28)) (.cells #[.int .i64 0] 41)
      rw [hX2, z1] at h
      exact (b3.block _ (by omega)).trans h
    have n2 : X3.heap[w.heap.size + 2]? = some (.cells #[.int .i64 0] 3) := by
      have h := World.alloc_heap_new X2 (.cells #[.int .i64 0] 3)
      rw [hX3, z2] at h
      exact h
    have hbel : Below w.heap.size w X3 := b1.trans ((b2.trans (b3.mono b2.size)).mono b1.size)
    obtain ⟨j0, j1, j2, j3, j4, j5, j6, j7, j8, j9⟩ := pg_cells (p := pg0) (vl := .slice none 0 0) n0
    have f0 := frozen_cells n0 0
    have f1 := frozen_cells n0 1
    have f2 := frozen_cells n0 2
    have f3 := frozen_cells n0 3
    have f4 := frozen_cells n0 4
    have f5 := frozen_cells n0 5
    have f6 := frozen_cells n0 6
    have f7 := frozen_cells n0 7
    have f8 := frozen_cells n0 8
    have f9 := frozen_cells n0 9
    obtain ⟨Y0, hY0⟩ : ∃ Y, putZ X3 w.heap.size = Y := ⟨_, rfl⟩
    have e0 : Y0.heap[w.heap.size]? = some (.cells pgZ 28) := by rw [← hY0]; exact putZ_heap n0
    have e1 : Y0.heap[w.heap.size + 1]? = some (.cells #[.int .i64 0] 41) := by rw [← hY0]; exact (putZ_other (by omega)).trans n1
    have m1 := cell_one e1
    have g1 := frozen_cells e1 0
    obtain ⟨Y1, hY1⟩ : ∃ Y, Y0.setCell ⟨w.heap.size + 1, 0, none⟩ (.int .i64 2) = Y := ⟨_, rfl⟩
    have e2 : Y1.heap[w.heap.size + 1 + 1]? = some (.cells #[.int .i64 0] 3) := by rw [← hY1]; refine (put_other (by omega)).trans ?_; rw [← hY0]; exact (putZ_other (by omega)).trans n2
    have m2 := cell_one e2
    have g2 := frozen_cells e2 0
    obtain ⟨Y2, hY2⟩ : ∃ Y, Y1.setCell ⟨w.heap.size + 1 + 1, 0, none⟩ (.int .i64 0) = Y := ⟨_, rfl⟩
    have hb0 : Y2.heap[w.heap.size]? = some (.cells pgZ 28) := by rw [← hY2, ← hY1]; exact (put_other (by omega)).trans ((put_other (by omega)).trans e0)
    have hb1 : Y2.heap[w.heap.size + 1]? = some (.cells #[.int .i64 2] 41) := by rw [← hY2, ← hY1]; exact (put_other (by omega)).trans (by rw [put_cell e1]; rfl)
    have hb2 : Y2.heap[w.heap.size + 1 + 1]? = some (.cells #[.int .i64 0] 3) := by rw [← hY2, put_cell e2]; rfl
    obtain ⟨c0, c1, c2, c3, c4, c5, c6, c7, c8, c9⟩ := pg_cells (p := pg0) (vl := .slice none 0 0) hb0
    have ce := cell_one hb1
    have cn := cell_one hb2
    have hbel2 : Below w.heap.size w Y2 := by
      rw [← hY2, ← hY1, ← hY0]
      exact ((putZ_below hbel (Nat.le_refl _)).setCell (by show _ ≤ _ + 1; omega) _).setCell (by show _ ≤ _ + 1 + 1; omega) _
    have HBe := Lib.hid hbel2
    unfold putZ at hY0
    subst hX2
    unfold pgZ at hX3
    have HYs := Lib.hid hY2
    clear b1 b2 b3 z1 z2 n0 n1 n2 hbel e0 e1 e2 hb0 hb1 hb2 hbel2 hY2 hb hn hl h65 he hr HG hG
    go_enter Tryz.func31, Tryz.ntmps31
    go_wp2_with fail
    rw [HYs.out]
    refine bodyPost_ret (v := .tuple #[pgV pg0 (.slice none 0 0), .int .i64 2, .int .i64 0]) (by simp [results, Tryz.results31, go_sem, c0, c1, c2, c3, c4, c5, c6, c7, c8, c9, ce, cn, pgV]) rfl ?_
    exact ⟨⟨.slice none 0 0, by rw [HR.out.1, HR.out.2.1, HR.out.2.2], by rw [HR.out.2.2]; exact LnSl.nil _ _⟩, HBe.out⟩
  · have H65 := Lib.hid h65
    have h65i : ¬ (65536 : Int) < (s.length : Int) := by omega
    obtain ⟨b, hb⟩ : ∃ b : ByteArray, (⟨s.toArray⟩ : ByteArray) = b := ⟨_, rfl⟩
    have HB := Lib.hid hb
    obtain ⟨n, hn⟩ : ∃ n, s.length = n := ⟨_, rfl⟩
    have hbs : b.size = n := by rw [← hb, ← hn]; rfl
    have HN := Lib.hid hn
    have hn65 : n ≤ 65536 := by omega
    rw [hn] at h65i
    obtain ⟨w4, hw4⟩ : ∃ X, (((w.alloc (.cells pgZ 28)).alloc (.cells #[.int .i64 0] 41)).alloc (.cells #[.int .i64 0] 3)).alloc (.cells (rdC rd0 (.slice none 0 0)) 129) = X := ⟨_, rfl⟩
    have HW4 := Lib.hid hw4
    have HLo := Lib.hid (linesOf_any s w4)
    unfold str at HLo ⊢
    rw [hb] at HLo ⊢
    unfold pgZ rdC rd0 pg0 at hw4
    clear hb hn hG hl h65
    obtain ⟨nn, hnn⟩ : ∃ nn : Nat, 20 ≤ nn := ⟨20, by omega⟩
    refine (callsIn_wide (n := nn)).1 ?_
    refine callsIn_of_wp_marks Tryz.func31 rfl trivial ?_ rfl
    simp only [Tryz.ntmps31, List.size_toArray, List.length_cons, List.length_nil, Nat.reduceAdd, Nat.reduceSub, Array.replicate_succ, Array.replicate_zero, List.push_toArray, List.append_toArray, List.nil_append, List.cons_append]
    gi_wp2_with fail
    (try rw [hw4])
    (try gi_wp2_with fail)
    refine ⟨trivial, fun h => (by first | omega | cases h), (callsIn_wide.2 HLo.out).mono ?_⟩
    rintro e w5 ⟨rfl, hw5⟩
    obtain ⟨hI0, hz5, hz4⟩ := ps_start w s w4 w5 HW4.out (by unfold str; rw [HB.out]; exact hw5)
    clear hw5 hw4
    gi_wp2_with fail
    (try rw [hz4])
    refine wp_rangeG (by omega) (gf := 144) (lb := #[.pointer (some ⟨w.heap.size + 4, 0, none⟩)]) rfl (enters_of Tryz.func144 (by kernel_rfl) rfl) (encs := lnBx) (fun _ => rfl)
      (fun pre ow Y => ∃ r vs, PsI w s pre ow r vs Y)
      (fun cd _ Y => cd = .ret ∧ ∃ n, PsX w s n Y)
      (fun ow pre P Q row h hg hr => by
        obtain ⟨r, vs, hI⟩ := h
        exact ⟨r, vs, hI.veil hg (fun r e => by rw [hz5] at hr; exact hr r e)⟩)
      (fun cd pre P Q row h hg hr => by
        obtain ⟨h1, n, hX⟩ := h
        exact ⟨h1, n, hX.grown hg (fun r e => by have := (hr r e).1; omega)⟩)
      (fun pre ow P h k e => by
        obtain ⟨r, vs, hI⟩ := h
        exact (hI.own_lt e).2.2) none ⟨rd0, _, hI0⟩
      (lines_iter w5.heap.size (nn - 1) (w.heap.size + 4) (by omega) s (by have := HN.out; omega) _ (fun pre ow P h => by
        obtain ⟨r, vs, hI⟩ := h
        exact ⟨hI.bx.b4, HG.out.below hI.rd.bel⟩))
      (fun x a' P => a'.tmps.size = 36 ∧ a'.tmps.getD 2 undef = .pointer (some ⟨w.heap.size, 0, none⟩) ∧ a'.tmps.getD 3 undef = .pointer (some ⟨w.heap.size + 1, 0, none⟩) ∧ a'.tmps.getD 4 undef = .pointer (some ⟨w.heap.size + 1 + 1, 0, none⟩) ∧ a'.tmps.getD 5 undef = .pointer (some ⟨w.heap.size + 1 + 1 + 1, 0, none⟩) ∧ a'.tmps.getD 6 undef = str x.1 ∧ a'.tmps.getD 7 undef = .bool x.2 ∧ a'.defers = [])
      (fun x a' _ P Q row h hg hr => h)
      ?assign ?body ?done ?stop
    case assign =>
      intro lr pre x ow P K' hI' hK'
      obtain ⟨line, en⟩ := x
      unfold lnBx
      simp only
      gi_wp2_with fail
      exact hK' _ _ (.inl rfl) ⟨rfl, rfl, rfl, rfl, rfl, rfl, rfl, rfl⟩
    case body =>
      rintro lr pre x ow ⟨t, ds⟩ P hl ⟨rr, hrr⟩ ⟨r, vs, hI⟩ ⟨hsz, h2, h3, h4, h5, h6, h7, hd⟩ ⟨hpx, hxl⟩
      obtain ⟨line, en⟩ := x
      obtain ⟨f', hf'⟩ := arr36 hsz
      subst hf'
      have h2' : f' 2 = .pointer (some ⟨w.heap.size, 0, none⟩) := h2
      have h3' : f' 3 = .pointer (some ⟨w.heap.size + 1, 0, none⟩) := h3
      have h4' : f' 4 = .pointer (some ⟨w.heap.size + 1 + 1, 0, none⟩) := h4
      have h5' : f' 5 = .pointer (some ⟨w.heap.size + 1 + 1 + 1, 0, none⟩) := h5
      have h6' : f' 6 = str line := h6
      have h7' : f' 7 = .bool en := h7
      have hd' : ds = [] := hd
      subst hd'
      rw [h2', h3', h4', h5', h6', h7']
      have HI := Lib.hid hI
      have HPx := Lib.hid hpx
      have hxl' : line.length ≤ 80000 := hxl
      have htk : r.tk ≤ 66000 := by
        have h1 := hI.ok.t1
        have h2 := hpx.length_le
        have h3 := lines_len (splitC 10 s)
        have h4 := (splitC_len 10 s).1
        have h5 : (linesL s).length = (endsL (splitC 10 s)).length := rfl
        have h6 := HN.out
        rw [List.length_append, List.length_singleton] at h2
        omega
      have hrw : IntKind.i64.wrap (r.tk + 1) = r.tk + 1 := by have := hI.ok.t0; rw [IntKind.wrap_i64]; omega
      obtain ⟨_, k10, k11⟩ := rd_cells hI.rd.box
      have HSW := Lib.hid (st_worlds hI.bx hI.rd.bel k10)
      have HRw := Lib.hid hrw
      have hlr : ∃ m, linesL s = pre ++ [(line, en)] ++ m := by obtain ⟨m, hm⟩ := hpx; exact ⟨m, hm.symm⟩
      have HLr := Lib.hid hlr
      clear hI hpx hxl h2 h3 h4 h5 h6 h7 hd h2' h3' h4' h5' h6' h7' hsz hlr
      cases en with
      | false =>
        have HStop := Lib.hid (show ∃ r', (rdRun rd0 (linesL s) = (r', false) ∨ (rdRun rd0 (linesL s) = (r', true) ∧ r'.dn = false)) ∧ r.tk + 1 = r'.tk + 1 from by
          obtain ⟨m, hm⟩ := HLr.out
          exact ⟨r, .inl (by rw [hm]; exact rdRun_stop m (by rw [run_next HI.out.run, if_neg (by simp)])), rfl⟩)
        gi_wp2_with fail
        refine ⟨trivial, ?_⟩
        gi_wp2_with fail
        refine wpIn_opaque ?_
        intro t0 ht0
        have hsz0 : t0.size = 36 := by rw [ht0]; rfl
        have q2 : t0.getD 2 undef = .pointer (some ⟨w.heap.size, 0, none⟩) := by rw [ht0]; rfl
        have q3 : t0.getD 3 undef = .pointer (some ⟨w.heap.size + 1, 0, none⟩) := by rw [ht0]; rfl
        have q4 : t0.getD 4 undef = .pointer (some ⟨w.heap.size + 1 + 1, 0, none⟩) := by rw [ht0]; rfl
        have q5 : t0.getD 5 undef = .pointer (some ⟨w.heap.size + 1 + 1 + 1, 0, none⟩) := by rw [ht0]; rfl
        have HT0 := Lib.hid ht0
        clear ht0
        refine wpIn_region_vals [some 23, some 24, some 25, some 26, none, none, none] (StI P.drew (putZ P.drew w.heap.size) ((putZ P.drew w.heap.size).setCell ⟨w.heap.size + 1, 0, none⟩ (.int .i64 41)) (((putZ P.drew w.heap.size).setCell ⟨w.heap.size + 1, 0, none⟩ (.int .i64 41)).setCell ⟨w.heap.size + 1 + 1, 0, none⟩ (.int .i64 (r.tk + 1))) (w.heap.size + 1 + 1 + 1) r.tk) (by kernel_rfl) (by kernel_rfl) rfl rfl (by simp [hsz0]) (by kernel_rfl) ?_ ?_ ?_
        · intro val
          exact ⟨(fun h => nomatch h), (fun h => nomatch h), (fun h => nomatch h), (fun h => nomatch h), fun _ => rfl, (fun h => nomatch h), (fun h => nomatch h), (fun h => nomatch h)⟩
        · intro dn qq o hi hd hp hc val X a ha hn' hI K hK
          have hq : qq < 7 := by
            have := (Array.getElem?_eq_some_iff.1 hi).1
            simpa using this
          have bf : ∀ {q : Bool}, (q = true → False) → q = false := fun {q} h => by cases q; rfl; exact (h rfl).elim
          have c5 : dn 5 = true → dn 4 = true := fun h => hc 5 _ rfl h ⟨4, .chain⟩ (by simp) rfl
          have c6 : dn 6 = true → dn 5 = true := fun h => hc 6 _ rfl h ⟨5, .chain⟩ (by simp) rfl
          rcases (show qq = 0 ∨ qq = 1 ∨ qq = 2 ∨ qq = 3 ∨ qq = 4 ∨ qq = 5 ∨ qq = 6 by omega) with rfl | rfl | rfl | rfl | rfl | rfl | rfl
          · obtain rfl := Option.some.inj hi
            exact inBuild rfl (hK _ _ hI.op0)
          · obtain rfl := Option.some.inj hi
            exact inFieldRd1 5 _ rfl ((ha 5).trans q5) (hK _ _ hI.op1)
          · obtain rfl := Option.some.inj hi
            refine inLdI 24 _ _ rfl ((ha 24).trans (hI.s1 (hp ⟨1, .data⟩ (by simp) rfl))) ?_ (hK _ _ hI.op2)
            rcases hI.world with e | e | e | e
            · rw [e]; exact HSW.out.k0
            · rw [e]; exact HSW.out.k1
            · rw [e]; exact HSW.out.k2
            · rw [e]; exact HSW.out.k3
          · obtain rfl := Option.some.inj hi
            exact inAdd1 25 _ rfl ((ha 25).trans (hI.s2 (hp ⟨2, .data⟩ (by simp) rfl))) HRw.out (hK _ _ hI.op3)
          · obtain rfl := Option.some.inj hi
            have n5 : dn 5 = false := bf fun h => f_t hd (c5 h)
            have n6 : dn 6 = false := bf fun h => f_t n5 (c6 h)
            have e := hI.m0 hd
            subst e
            exact inStoreZ 2 23 _ rfl ((ha 2).trans q2) ((ha 23).trans (hI.s0 (hp ⟨0, .data⟩ (by simp) rfl))) HSW.out.z0 (hK _ _ (hI.op4 n5 n6 _))
          · obtain rfl := Option.some.inj hi
            have n6 : dn 6 = false := bf fun h => f_t hd (c6 h)
            have y4 := hp ⟨4, .chain⟩ (by simp) rfl
            have e := hI.m1 y4 hd
            subst e
            exact inStoreE 3 _ _ rfl ((ha 3).trans q3) HSW.out.c1.1 HSW.out.c1.2 (hK _ _ (hI.op5 y4 n6 _))
          · obtain rfl := Option.some.inj hi
            have y5 := hp ⟨5, .chain⟩ (by simp) rfl
            have e := hI.m2 y5 hd
            subst e
            exact inStoreI 4 26 _ _ _ rfl ((ha 4).trans q4) ((ha 26).trans (hI.s3 (hp ⟨3, .data⟩ (by simp) rfl))) HSW.out.c2.1 HSW.out.c2.2 (hK _ _ (hI.op6 (c5 y5) y5 _))
        · intro dn val X hdn hI
          have hX := hI.m3 (hdn 6 (by simp))
          obtain ⟨V3, hV3⟩ : ∃ V, (((putZ P.drew w.heap.size).setCell ⟨w.heap.size + 1, 0, none⟩ (.int .i64 41)).setCell ⟨w.heap.size + 1 + 1, 0, none⟩ (.int .i64 (r.tk + 1))) = V := ⟨_, rfl⟩
          have hSW := HSW.out
          rw [hV3] at hX hSW
          subst hX
          have HF := Lib.hid hSW
          simp only [wrS, HT0.out]
          simp only [List.setIfInBounds_toArray, List.set_cons_succ, List.set_cons_zero]
          (try simp only [Exit.then])
          clear hdn hI HT0 hsz0 q2 q3 q4 q5 hSW hV3
          generalize val 0 = z0 at *
          generalize val 1 = z1 at *
          generalize val 2 = z2 at *
          generalize val 3 = z3 at *
          gi_wp2_with fail
          refine ⟨⟨by rw [HF.out.size]; exact Nat.le_refl _, fun k o h1 h2 _ => by rw [HF.out.oth k (by omega)]; exact h2⟩, rfl, r.tk + 1, HF.out.bel, HF.out.fin.1, HF.out.fin.2.1, HF.out.fin.2.2, HStop.out⟩
      | true =>
        have HTk := Lib.hid (show Calls Tryz.prog 90 #[.pointer (some ⟨w.heap.size + 1 + 1 + 1, 0, none⟩), str line] P (TkR w (w.heap.size + 3) (w.heap.size + 5) r vs (rdStep r line) P) from take_any w P (w.heap.size + 3) (w.heap.size + 5) r vs line HI.out.rd HI.out.ok.pg (by omega) HI.out.ok.len HI.out.ok.t0 (by omega) HG.out)
        gi_wp2_with fail
        refine ⟨trivial, fun h => (by first | omega | cases h), (CallsIn.inRound _ (callsIn_wide.2 HTk.out)).mono ?_⟩
        rintro e P2 ⟨hk, h⟩
        have HK := Lib.hid hk
        rcases h with ⟨r', vs', hq, rfl, hd3, ho⟩ | ⟨hq, rfl, h10⟩
        · have HN2 := Lib.hid (HI.out.next hk hd3 hq)
          have HGr := Lib.hid (show Grows ow vs'.ownBlock P from ho.imp (fun e => e.trans HI.out.own.symm) id)
          clear hk hq hd3 ho HTk HSW k10 k11
          gi_wp2_with fail
          exact ⟨⟨HK.out.size, fun k o h1 h2 h3 => (HK.out.block k (Array.getElem?_eq_some_iff.1 h2).1 (by omega) (by rw [← HI.out.own]; exact h3)).trans h2⟩, _, ⟨r', vs', HN2.out⟩, HGr.out⟩
        · have hown : ∀ g, vs.ownBlock = some g → w.heap.size + 5 ≤ g := fun g e => (HI.out.own_lt (HI.out.own.trans e)).1
          have hb4 := (Array.getElem?_eq_some_iff.1 HI.out.bx.b4).1
          have hbx2 : PsB w s P2 := HI.out.bx.keep fun k hk2 h3 => hk.block k (by omega) h3 (fun e => by have := hown k e.symm; omega)
          have hbel2 : Below w.heap.size w P2 := hk.below HI.out.rd.bel (by omega) (by omega) (fun g e => by have := hown g e; omega)
          have HSW := Lib.hid (st_worlds hbx2 hbel2 h10)
          have HStop := Lib.hid (show ∃ r', (rdRun rd0 (linesL s) = (r', false) ∨ (rdRun rd0 (linesL s) = (r', true) ∧ r'.dn = false)) ∧ r.tk + 1 = r'.tk + 1 from by
            obtain ⟨m, hm⟩ := HLr.out
            exact ⟨r, .inl (by rw [hm]; exact rdRun_stop m (by rw [run_next HI.out.run, if_pos rfl, hq])), rfl⟩)
          clear hk hq h10 HTk k10 k11 hown hb4 hbx2 hbel2
          gi_wp2_with fail
          refine wpIn_opaque ?_
          intro t0 ht0
          have hsz0 : t0.size = 36 := by rw [ht0]; rfl
          have q2 : t0.getD 2 undef = .pointer (some ⟨w.heap.size, 0, none⟩) := by rw [ht0]; rfl
          have q3 : t0.getD 3 undef = .pointer (some ⟨w.heap.size + 1, 0, none⟩) := by rw [ht0]; rfl
          have q4 : t0.getD 4 undef = .pointer (some ⟨w.heap.size + 1 + 1, 0, none⟩) := by rw [ht0]; rfl
          have q5 : t0.getD 5 undef = .pointer (some ⟨w.heap.size + 1 + 1 + 1, 0, none⟩) := by rw [ht0]; rfl
          have HT0 := Lib.hid ht0
          clear ht0
          refine wpIn_region_vals [some 23, some 24, some 25, some 26, none, none, none] (StI P2.drew (putZ P2.drew w.heap.size) ((putZ P2.drew w.heap.size).setCell ⟨w.heap.size + 1, 0, none⟩ (.int .i64 41)) (((putZ P2.drew w.heap.size).setCell ⟨w.heap.size + 1, 0, none⟩ (.int .i64 41)).setCell ⟨w.heap.size + 1 + 1, 0, none⟩ (.int .i64 (r.tk + 1))) (w.heap.size + 1 + 1 + 1) r.tk) (by kernel_rfl) (by kernel_rfl) rfl rfl (by simp [hsz0]) (by kernel_rfl) ?_ ?_ ?_
          · intro val
            exact ⟨(fun h => nomatch h), (fun h => nomatch h), (fun h => nomatch h), (fun h => nomatch h), fun _ => rfl, (fun h => nomatch h), (fun h => nomatch h), (fun h => nomatch h)⟩
          · intro dn qq o hi hd hp hc val X a ha hn' hI K hK
            have hq : qq < 7 := by
              have := (Array.getElem?_eq_some_iff.1 hi).1
              simpa using this
            have bf : ∀ {q : Bool}, (q = true → False) → q = false := fun {q} h => by cases q; rfl; exact (h rfl).elim
            have c5 : dn 5 = true → dn 4 = true := fun h => hc 5 _ rfl h ⟨4, .chain⟩ (by simp) rfl
            have c6 : dn 6 = true → dn 5 = true := fun h => hc 6 _ rfl h ⟨5, .chain⟩ (by simp) rfl
            rcases (show qq = 0 ∨ qq = 1 ∨ qq = 2 ∨ qq = 3 ∨ qq = 4 ∨ qq = 5 ∨ qq = 6 by omega) with rfl | rfl | rfl | rfl | rfl | rfl | rfl
            · obtain rfl := Option.some.inj hi
              exact inBuild rfl (hK _ _ hI.op0)
            · obtain rfl := Option.some.inj hi
              exact inFieldRd1 5 _ rfl ((ha 5).trans q5) (hK _ _ hI.op1)
            · obtain rfl := Option.some.inj hi
              refine inLdI 24 _ _ rfl ((ha 24).trans (hI.s1 (hp ⟨1, .data⟩ (by simp) rfl))) ?_ (hK _ _ hI.op2)
              rcases hI.world with e | e | e | e
              · rw [e]; exact HSW.out.k0
              · rw [e]; exact HSW.out.k1
              · rw [e]; exact HSW.out.k2
              · rw [e]; exact HSW.out.k3
            · obtain rfl := Option.some.inj hi
              exact inAdd1 25 _ rfl ((ha 25).trans (hI.s2 (hp ⟨2, .data⟩ (by simp) rfl))) HRw.out (hK _ _ hI.op3)
            · obtain rfl := Option.some.inj hi
              have n5 : dn 5 = false := bf fun h => f_t hd (c5 h)
              have n6 : dn 6 = false := bf fun h => f_t n5 (c6 h)
              have e := hI.m0 hd
              subst e
              exact inStoreZ 2 23 _ rfl ((ha 2).trans q2) ((ha 23).trans (hI.s0 (hp ⟨0, .data⟩ (by simp) rfl))) HSW.out.z0 (hK _ _ (hI.op4 n5 n6 _))
            · obtain rfl := Option.some.inj hi
              have n6 : dn 6 = false := bf fun h => f_t hd (c6 h)
              have y4 := hp ⟨4, .chain⟩ (by simp) rfl
              have e := hI.m1 y4 hd
              subst e
              exact inStoreE 3 _ _ rfl ((ha 3).trans q3) HSW.out.c1.1 HSW.out.c1.2 (hK _ _ (hI.op5 y4 n6 _))
            · obtain rfl := Option.some.inj hi
              have y5 := hp ⟨5, .chain⟩ (by simp) rfl
              have e := hI.m2 y5 hd
              subst e
              exact inStoreI 4 26 _ _ _ rfl ((ha 4).trans q4) ((ha 26).trans (hI.s3 (hp ⟨3, .data⟩ (by simp) rfl))) HSW.out.c2.1 HSW.out.c2.2 (hK _ _ (hI.op6 (c5 y5) y5 _))
          · intro dn val X hdn hI
            have hX := hI.m3 (hdn 6 (by simp))
            obtain ⟨V3, hV3⟩ : ∃ V, (((putZ P2.drew w.heap.size).setCell ⟨w.heap.size + 1, 0, none⟩ (.int .i64 41)).setCell ⟨w.heap.size + 1 + 1, 0, none⟩ (.int .i64 (r.tk + 1))) = V := ⟨_, rfl⟩
            have hSW := HSW.out
            rw [hV3] at hX hSW
            subst hX
            have HF := Lib.hid hSW
            simp only [wrS, HT0.out]
            simp only [List.setIfInBounds_toArray, List.set_cons_succ, List.set_cons_zero]
            (try simp only [Exit.then])
            clear hdn hI HT0 hsz0 q2 q3 q4 q5 hSW hV3
            generalize val 0 = z0 at *
            generalize val 1 = z1 at *
            generalize val 2 = z2 at *
            generalize val 3 = z3 at *
            gi_wp2_with fail
            refine ⟨⟨by rw [HF.out.size]; exact HK.out.size, fun k o h1 h2 h3 => by
              rw [HF.out.oth k (by omega)]
              exact (HK.out.block k (Array.getElem?_eq_some_iff.1 h2).1 (by omega) (by rw [← HI.out.own]; exact h3)).trans h2⟩, rfl, r.tk + 1, HF.out.bel, HF.out.fin.1, HF.out.fin.2.1, HF.out.fin.2.2, HStop.out⟩
    case done =>
      rintro D xs ow P hD hxs ⟨r, vs, hI⟩ hKd
      have hxs' : xs = linesL s := hxs
      subst hxs'
      obtain ⟨⟨k0, k1, k2, k3, k4, k5, k6, k7, k8, k9⟩, k10, k11⟩ := rd_cells hI.rd.box
      have HI := Lib.hid hI
      have HKd := Lib.hid hKd
      cases hdn : r.dn with
      | false =>
        rw [hdn] at k11
        have hrw : IntKind.i64.wrap (r.tk + 1) = r.tk + 1 := by
          have h1 := hI.ok.t0
          have h2 := hI.ok.t1
          have h3 := lines_len (splitC 10 s)
          have h4 := (splitC_len 10 s).1
          have h5 : (linesL s).length = (endsL (splitC 10 s)).length := rfl
          have h6 := HN.out
          rw [IntKind.wrap_i64]; omega
        have HRw := Lib.hid hrw
        have HSW := Lib.hid (st_worlds hI.bx hI.rd.bel k10)
        have HStop := Lib.hid (show ∃ r', (rdRun rd0 (linesL s) = (r', false) ∨ (rdRun rd0 (linesL s) = (r', true) ∧ r'.dn = false)) ∧ r.tk + 1 = r'.tk + 1 from ⟨r, .inr ⟨hI.run, hdn⟩, rfl⟩)
        have HB4 := Lib.hid (show w.heap.size + 5 ≤ D from by omega)
        clear hI hKd hdn k0 k1 k2 k3 k4 k5 k6 k7 k8 k9 k10
        gi_wp2_with fail
        refine wpIn_opaque ?_
        intro t0 ht0
        have hsz0 : t0.size = 36 := by rw [ht0]; rfl
        have q2 : t0.getD 2 undef = .pointer (some ⟨w.heap.size, 0, none⟩) := by rw [ht0]; rfl
        have q3 : t0.getD 3 undef = .pointer (some ⟨w.heap.size + 1, 0, none⟩) := by rw [ht0]; rfl
        have q4 : t0.getD 4 undef = .pointer (some ⟨w.heap.size + 1 + 1, 0, none⟩) := by rw [ht0]; rfl
        have q5 : t0.getD 5 undef = .pointer (some ⟨w.heap.size + 1 + 1 + 1, 0, none⟩) := by rw [ht0]; rfl
        have HT0 := Lib.hid ht0
        clear ht0
        refine wpIn_region_vals [some 30, some 31, some 32, some 33, none, none, none] (StI P.drew (putZ P.drew w.heap.size) ((putZ P.drew w.heap.size).setCell ⟨w.heap.size + 1, 0, none⟩ (.int .i64 41)) (((putZ P.drew w.heap.size).setCell ⟨w.heap.size + 1, 0, none⟩ (.int .i64 41)).setCell ⟨w.heap.size + 1 + 1, 0, none⟩ (.int .i64 (r.tk + 1))) (w.heap.size + 1 + 1 + 1) r.tk) (by kernel_rfl) (by kernel_rfl) rfl rfl (by simp [hsz0]) (by kernel_rfl) ?_ ?_ ?_
        · intro val
          exact ⟨(fun h => nomatch h), (fun h => nomatch h), (fun h => nomatch h), (fun h => nomatch h), fun _ => rfl, (fun h => nomatch h), (fun h => nomatch h), (fun h => nomatch h)⟩
        · intro dn qq o hi hd hp hc val X a ha hn' hI K hK
          have hq : qq < 7 := by
            have := (Array.getElem?_eq_some_iff.1 hi).1
            simpa using this
          have bf : ∀ {q : Bool}, (q = true → False) → q = false := fun {q} h => by cases q; rfl; exact (h rfl).elim
          have c5 : dn 5 = true → dn 4 = true := fun h => hc 5 _ rfl h ⟨4, .chain⟩ (by simp) rfl
          have c6 : dn 6 = true → dn 5 = true := fun h => hc 6 _ rfl h ⟨5, .chain⟩ (by simp) rfl
          rcases (show qq = 0 ∨ qq = 1 ∨ qq = 2 ∨ qq = 3 ∨ qq = 4 ∨ qq = 5 ∨ qq = 6 by omega) with rfl | rfl | rfl | rfl | rfl | rfl | rfl
          · obtain rfl := Option.some.inj hi
            exact inBuild rfl (hK _ _ hI.op0)
          · obtain rfl := Option.some.inj hi
            exact inFieldRd1 5 _ rfl ((ha 5).trans q5) (hK _ _ hI.op1)
          · obtain rfl := Option.some.inj hi
            refine inLdI 31 _ _ rfl ((ha 31).trans (hI.s1 (hp ⟨1, .data⟩ (by simp) rfl))) ?_ (hK _ _ hI.op2)
            rcases hI.world with e | e | e | e
            · rw [e]; exact HSW.out.k0
            · rw [e]; exact HSW.out.k1
            · rw [e]; exact HSW.out.k2
            · rw [e]; exact HSW.out.k3
          · obtain rfl := Option.some.inj hi
            exact inAdd1 32 _ rfl ((ha 32).trans (hI.s2 (hp ⟨2, .data⟩ (by simp) rfl))) HRw.out (hK _ _ hI.op3)
          · obtain rfl := Option.some.inj hi
            have n5 : dn 5 = false := bf fun h => f_t hd (c5 h)
            have n6 : dn 6 = false := bf fun h => f_t n5 (c6 h)
            have e := hI.m0 hd
            subst e
            exact inStoreZ 2 30 _ rfl ((ha 2).trans q2) ((ha 30).trans (hI.s0 (hp ⟨0, .data⟩ (by simp) rfl))) HSW.out.z0 (hK _ _ (hI.op4 n5 n6 _))
          · obtain rfl := Option.some.inj hi
            have n6 : dn 6 = false := bf fun h => f_t hd (c6 h)
            have y4 := hp ⟨4, .chain⟩ (by simp) rfl
            have e := hI.m1 y4 hd
            subst e
            exact inStoreE 3 _ _ rfl ((ha 3).trans q3) HSW.out.c1.1 HSW.out.c1.2 (hK _ _ (hI.op5 y4 n6 _))
          · obtain rfl := Option.some.inj hi
            have y5 := hp ⟨5, .chain⟩ (by simp) rfl
            have e := hI.m2 y5 hd
            subst e
            exact inStoreI 4 33 _ _ _ rfl ((ha 4).trans q4) ((ha 33).trans (hI.s3 (hp ⟨3, .data⟩ (by simp) rfl))) HSW.out.c2.1 HSW.out.c2.2 (hK _ _ (hI.op6 (c5 y5) y5 _))
        · intro dn val X hdn hI
          have hX := hI.m3 (hdn 6 (by simp))
          obtain ⟨V3, hV3⟩ : ∃ V, (((putZ P.drew w.heap.size).setCell ⟨w.heap.size + 1, 0, none⟩ (.int .i64 41)).setCell ⟨w.heap.size + 1 + 1, 0, none⟩ (.int .i64 (r.tk + 1))) = V := ⟨_, rfl⟩
          have hSW := HSW.out
          rw [hV3] at hX hSW
          subst hX
          have HF := Lib.hid hSW
          simp only [wrS, HT0.out]
          simp only [List.setIfInBounds_toArray, List.set_cons_succ, List.set_cons_zero]
          (try simp only [Exit.then])
          clear hdn hI HT0 hsz0 q2 q3 q4 q5 hSW hV3
          generalize val 0 = z0 at *
          generalize val 1 = z1 at *
          generalize val 2 = z2 at *
          generalize val 3 = z3 at *
          have hX : PsX w s (r.tk + 1) X := ⟨HF.out.bel, HF.out.fin.1, HF.out.fin.2.1, HF.out.fin.2.2, HStop.out⟩
          have hKX := (HF.out.oth D (by have := HB4.out; omega)).trans HKd.out
          have HX := Lib.hid hX
          have HKX := Lib.hid hKX
          obtain ⟨⟨c0, c1, c2, c3, c4, c5, c6, c7, c8, c9⟩, ce, cn⟩ := fin_cells (p := pg0) (vs := .slice none 0 0) (D := D) HB4.out hX.b0 hX.b1 hX.b2
          clear hX hKX
          gi_wp2_with fail
          refine ⟨by simp, .inl ⟨_, _, rfl, run_takeDeferred HKX.out, ?_⟩⟩
          refine ⟨.tuple #[pgV pg0 (.slice none 0 0), .int .i64 41, .int .i64 (r.tk + 1)], by simp [results, Tryz.results31, go_sem, c0, c1, c2, c3, c4, c5, c6, c7, c8, c9, ce, cn, pgV], ?_⟩
          exact ps_answer HX.out H65.out (grownBy_putObj' X D (.deferred none)) (by have := HB4.out; omega)
      | true =>
        rw [hdn] at k11
        have HB4 := Lib.hid (show w.heap.size + 5 ≤ D from by omega)
        obtain ⟨j0, j1, j2, j3, j4, j5, j6, j7, j8, j9⟩ := pg_cells (p := pg0) (vl := .slice none 0 0) hI.bx.b0
        have f0 := frozen_cells hI.bx.b0 0
        have f1 := frozen_cells hI.bx.b0 1
        have f2 := frozen_cells hI.bx.b0 2
        have f3 := frozen_cells hI.bx.b0 3
        have f4 := frozen_cells hI.bx.b0 4
        have f5 := frozen_cells hI.bx.b0 5
        have f6 := frozen_cells hI.bx.b0 6
        have f7 := frozen_cells hI.bx.b0 7
        have f8 := frozen_cells hI.bx.b0 8
        have f9 := frozen_cells hI.bx.b0 9
        obtain ⟨Y0, hY0⟩ : ∃ Y, put10 P w.heap.size r.pg vs = Y := ⟨_, rfl⟩
        have y0 : Y0.heap[w.heap.size]? = some (.cells (pgC r.pg vs) 28) := by rw [← hY0]; exact put10_heap hI.bx.b0
        have yo : ∀ k, k ≠ w.heap.size → Y0.heap[k]? = P.heap[k]? := fun k hk => by rw [← hY0]; exact put10_other hk _ _
        have e1 := (yo (w.heap.size + 1) (by omega)).trans hI.bx.b1
        have m1 := cell_one e1
        have n1 := frozen_cells e1 0
        obtain ⟨Y1, hY1⟩ : ∃ Y, Y0.setCell ⟨w.heap.size + 1, 0, none⟩ (.int .i64 0) = Y := ⟨_, rfl⟩
        have e2 : Y1.heap[w.heap.size + 1 + 1]? = some (.cells #[.int .i64 0] 3) := by rw [← hY1]; exact (put_other (by omega)).trans ((yo (w.heap.size + 2) (by omega)).trans hI.bx.b2)
        have m2 := cell_one e2
        have n2 := frozen_cells e2 0
        obtain ⟨Y2, hY2⟩ : ∃ Y, Y1.setCell ⟨w.heap.size + 1 + 1, 0, none⟩ (.int .i64 0) = Y := ⟨_, rfl⟩
        have hyk : ∀ k, w.heap.size + 3 ≤ k → Y2.heap[k]? = P.heap[k]? := fun k hk => by rw [← hY2, ← hY1]; exact (put_other (by omega)).trans ((put_other (by omega)).trans (yo k (by omega)))
        have hb0 : Y2.heap[w.heap.size]? = some (.cells (pgC r.pg vs) 28) := by rw [← hY2, ← hY1]; exact (put_other (by omega)).trans ((put_other (by omega)).trans y0)
        have hb1 : Y2.heap[w.heap.size + 1]? = some (.cells #[.int .i64 0] 41) := by rw [← hY2, ← hY1]; exact (put_other (by omega)).trans (by rw [put_cell e1]; rfl)
        have hb2 : Y2.heap[w.heap.size + 2]? = some (.cells #[.int .i64 0] 3) := by rw [← hY2, show w.heap.size + 2 = w.heap.size + 1 + 1 from rfl, put_cell e2]; rfl
        have hg02 : P.grownBy (put10 P w.heap.size r.pg vs) (some w.heap.size) := put10_grown _ _ _ _
        have hlo2 : ∃ vals, LoI w (w.heap.size + 5) r.pg.ls vals vs Y2 := by
          obtain ⟨vals, hlo⟩ := hI.rd.lo
          rw [hY0] at hg02
          have g1 : Y0.grownBy Y1 (some (w.heap.size + 1)) := by rw [← hY1]; exact setCell_grown' _ _ _ _
          have g2 : Y1.grownBy Y2 (some (w.heap.size + 1 + 1)) := by rw [← hY2]; exact setCell_grown' _ _ _ _
          exact ⟨vals, ((hlo.other hg02 (Nat.le_refl _) (by omega)).other g1 (by omega) (by omega)).other g2 (by omega) (by omega)⟩
        have hbel2 : Below w.heap.size w Y2 := by
          rw [← hY2, ← hY1, ← hY0]
          exact ((put10_below hI.rd.bel (Nat.le_refl _) _ _).setCell (by show _ ≤ _ + 1; omega) _).setCell (by show _ ≤ _ + 1 + 1; omega) _
        have HY2 := Lib.hid (And.intro hlo2 (And.intro hbel2 (show r.pg = prsP s ∧ prsE s = 0 ∧ prsN s = 0 from prs_done hI.run hdn H65.out)))
        have HKX := Lib.hid ((hyk D (by have := HB4.out; omega)).trans hKd)
        obtain ⟨⟨c0, c1, c2, c3, c4, c5, c6, c7, c8, c9⟩, ce, cn⟩ := fin_cells (D := D) HB4.out hb0 hb1 hb2
        unfold put10 at hY0
        obtain ⟨Av, cv, hev⟩ : ∃ A c, vs = .slice A r.pg.ls.length c := by obtain ⟨vals, hlo⟩ := hI.rd.lo; exact hlo.slice
        generalize r.pg.ls.length = nls at hev
        subst hev
        have HYs := Lib.hid (And.intro hY0 (And.intro hY1 hY2))
        clear hI hKd hdn k10 y0 yo e1 e2 hyk hb0 hb1 hb2 hg02 hlo2 hbel2 hY2
        gi_wp2_with fail
        rw [HYs.out.2.2]
        refine ⟨by simp, .inl ⟨_, _, rfl, run_takeDeferred HKX.out, ?_⟩⟩
        refine ⟨.tuple #[pgV r.pg (.slice Av nls cv), .int .i64 0, .int .i64 0], by simp [results, Tryz.results31, go_sem, c0, c1, c2, c3, c4, c5, c6, c7, c8, c9, ce, cn, pgV], ?_⟩
        obtain ⟨⟨vals, hlo⟩, hbel, q1, q2, q3⟩ := HY2.out
        refine ⟨⟨_, by rw [← q1, q2, q3], ?_⟩, hbel.grown (grownBy_putObj' Y2 D (.deferred none)) hbel.size (fun r e => by cases e; have := HB4.out; omega)⟩
        rw [← q1]
        exact (hlo.veil (grownBy_putObj' Y2 D (.deferred none)) (fun r e => by cases e; have := HB4.out; omega) (fun r e => by cases e; exact ⟨_, HKX.out, rfl⟩)).sl
    case stop =>
      rintro D cd pre P hD hSp ⟨rfl, n', hX⟩ hKd
      have HB4 := Lib.hid (show w.heap.size + 5 ≤ D from by omega)
      have HX := Lib.hid hX
      have HKX := Lib.hid hKd
      obtain ⟨⟨c0, c1, c2, c3, c4, c5, c6, c7, c8, c9⟩, ce, cn⟩ := fin_cells (p := pg0) (vs := .slice none 0 0) (D := D) HB4.out hX.b0 hX.b1 hX.b2
      clear hX hKd
      gi_wp2_with fail
      refine ⟨by simp, .inl ⟨_, _, rfl, run_takeDeferred HKX.out, ?_⟩⟩
      refine ⟨.tuple #[pgV pg0 (.slice none 0 0), .int .i64 41, .int .i64 n'], by simp [results, Tryz.results31, go_sem, c0, c1, c2, c3, c4, c5, c6, c7, c8, c9, ce, cn, pgV], ?_⟩
      exact ps_answer HX.out H65.out (grownBy_putObj' P D (.deferred none)) (by have := HB4.out; omega)
end Go.Proofs.YtijidcigfdblaaaGreatDoor
