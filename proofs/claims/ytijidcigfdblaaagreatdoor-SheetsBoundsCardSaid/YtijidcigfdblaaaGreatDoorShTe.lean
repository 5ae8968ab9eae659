/- The reader of a text in memory; takeLine: the program. -/
import Derived.Test.YtijidcigfdblaaaGreatDoorShTc
import Derived.Test.YtijidcigfdblaaaGreatDoorShK
namespace Go.Proofs.YtijidcigfdblaaaGreatDoor
open Go.RowKit Go.Nm Go.Sh Go.Plc

def rdC (r : Rd) (vs : Value) : Array Value := #[.int .i64 r.pg.ob, .int .i64 r.pg.yr, .int .i64 r.pg.lv, .int .i64 r.pg.sx, .int .i64 r.pg.sy, .int .i64 r.pg.nt, .int .i64 r.pg.lm, .int .i64 r.pg.lo, .int .i64 r.pg.hi, vs, .int .i64 r.tk, .bool r.dn]
/-- the reader at block rb -/
structure RdI (W : World) (rb T : Nat) (r : Rd) (vs : Value) (X : World) : Prop where
  box : X.heap[rb]? = some (.cells (rdC r vs) 129)
  lo : ∃ vals, LoI W T r.pg.ls vals vs X
  b0 : W.heap.size ≤ rb
  b1 : rb < T
/-- what a step of the reader leaves as it was -/
structure RdK (rb : Nat) (ow : Option Nat) (X Y : World) : Prop where
  os : Y.os = X.os
  tape : Y.tape = X.tape
  output : Y.output = X.output
  size : X.heap.size ≤ Y.heap.size
  block : ∀ k, k < X.heap.size → k ≠ rb → some k ≠ ow → Y.heap[k]? = X.heap[k]?
theorem RdK.of_below {rb : Nat} {ow : Option Nat} {X Y : World} (h : Below X.heap.size X Y) : RdK rb ow X Y := ⟨h.os, h.tape, h.output, h.size, fun k hk _ _ => h.block k hk⟩
theorem RdK.trans {rb : Nat} {ow ow' : Option Nat} {X Y Z : World} (h : RdK rb ow X Y) (k : RdK rb ow' Y Z) (ho : ow' = ow ∨ ∃ g, ow' = some g ∧ X.heap.size ≤ g) : RdK rb ow X Z :=
  ⟨k.os.trans h.os, k.tape.trans h.tape, k.output.trans h.output, Nat.le_trans h.size k.size, fun i hi h1 h2 => (k.block i (Nat.lt_of_lt_of_le hi h.size) h1 (fun e => by
    rcases ho with e2 | ⟨g, e2, hg⟩
    · exact h2 (e.trans e2)
    · rw [e2] at e; injection e with e; omega)).trans (h.block i hi h1 h2)⟩
theorem RdI.step {W : World} {rb T : Nat} {r : Rd} {vs : Value} {X Y : World} (h : RdI W rb T r vs X) (hb : Below X.heap.size X Y) : RdI W rb T r vs Y := by
  obtain ⟨vals, hl⟩ := h.lo
  exact ⟨(hb.block _ (Array.getElem?_eq_some_iff.1 h.box).1).trans h.box, ⟨vals, hl.step hb⟩, h.b0, h.b1⟩
theorem RdI.lt {W : World} {rb T : Nat} {r : Rd} {vs : Value} {X : World} (h : RdI W rb T r vs X) : rb < X.heap.size := (Array.getElem?_eq_some_iff.1 h.box).1
theorem RdI.bel {W : World} {rb T : Nat} {r : Rd} {vs : Value} {X : World} (h : RdI W rb T r vs X) : Below W.heap.size W X := by
  obtain ⟨vals, hl⟩ := h.lo; exact hl.bel
theorem rd_cells {Y : World} {g : Nat} {r : Rd} {vs : Value} {t : TypeId} (h : Y.heap[g]? = some (.cells (rdC r vs) t)) : PgC Y g r.pg vs ∧ Y.cell? ⟨g, 10, none⟩ = some (.int .i64 r.tk) ∧ Y.cell? ⟨g, 11, none⟩ = some (.bool r.dn) := by
  unfold PgC World.cell?
  simp only [h]
  exact ⟨⟨rfl, rfl, rfl, rfl, rfl, rfl, rfl, rfl, rfl, rfl⟩, rfl, rfl⟩
theorem not_line_own {X : World} {B n lb : Nat} {v : Value} {xs : List Value} {cs : Array Value} (h : X.ownsRow B 3 1 v n xs) (hl : X.heap[lb]? = some (.cells cs 83)) : v.ownBlock = none ∨ v.ownBlock ≠ some lb := by
  rcases h.2 with ⟨e, _⟩ | ⟨g, cap, cur, e, _, hg, _⟩
  · rw [e]; exact .inl rfl
  · refine .inr fun e2 => ?_
    rw [e] at e2
    injection e2 with e2
    rw [← e2] at hl
    have e3 := hg.symm.trans hl
    injection e3 with e3
    injection e3 with _ e4 _
    cases e4
section
variable {o : Oper} {a : Act} {w : World} {K : Act → World → Prop} {Q : Exit → Act → World → Prop}
set_option maxRecDepth 100000 in
theorem opFieldRd (q g : Nat) (ho : o.op = .fieldAddr 129 (.tmp q) 0) (hq : a.tmps.getD q undef = .pointer (some ⟨g, 0, none⟩)) (h : K (a.put o.dst (.pointer (some ⟨g, 0, none⟩))) w) : o.wp Tryz.prog a w K Q := by
  unfold Oper.wp execOp
  have he : a.eval (.tmp q) = .pointer (some ⟨g, 0, none⟩) := hq
  simp only [ho, he]
  go_simp
  exact h
theorem opNil (q : Nat) (ad : Addr) (ho : o.op = .nilCheck (.tmp q)) (hq : a.tmps.getD q undef = .pointer (some ad)) (h : K (a.put o.dst (.pointer (some ad))) w) : o.wp Tryz.prog a w K Q := by
  unfold Oper.wp execOp
  have he : a.eval (.tmp q) = .pointer (some ad) := hq
  simp only [ho, he]
  go_simp
  exact h
end
/-- the append of a line, and its store -/
structure TlI (V : World) (p0 p9 ov sv : Value) (x : Ln) (S : Value → World → Prop) (R : World → Prop) (dn : Nat → Bool) (val : Nat → Value) (X : World) : Prop where
  s0 : dn 0 = true → val 0 = p0
  s1 : dn 1 = true → val 1 = p0
  s2 : dn 2 = true → val 2 = p0
  s3 : dn 3 = true → val 3 = p0
  s4 : dn 4 = true → val 4 = p9
  s5 : dn 5 = true → val 5 = ov
  s6 : dn 6 = true → val 6 = (lnV x sv)
  s9 : dn 9 = true → val 9 = p0
  s10 : dn 10 = true → val 10 = p0
  s11 : dn 11 = true → val 11 = p9
  bel : dn 8 = false → Below V.heap.size V X
  e7 : dn 7 = true → dn 8 = false → ∃ g, val 7 = .slice (some ⟨g, 0, none⟩) 1 1 ∧ X.heap[g]? = some (.cells #[.int .i64 x.nm, .int .i64 x.lo, .int .i64 x.hi, sv] 83)
  e8 : dn 8 = true → dn 12 = false → S (val 8) X
  e12 : dn 12 = true → R X
section
variable {V : World} {p0 p9 ov sv : Value} {x : Ln} {S : Value → World → Prop} {R : World → Prop} {dn : Nat → Bool} {val : Nat → Value} {X Y : World}
theorem TlI.op0 (h : TlI V p0 p9 ov sv x S R dn val X) : TlI V p0 p9 ov sv x S R (andB dn 0) (updV val 0 (p0)) X :=
  ⟨(fun _ => rfl), h.s1, h.s2, h.s3, h.s4, h.s5, h.s6, h.s9, h.s10, h.s11, h.bel, h.e7, h.e8, h.e12⟩
theorem TlI.op1 (h : TlI V p0 p9 ov sv x S R dn val X) : TlI V p0 p9 ov sv x S R (andB dn 1) (updV val 1 (p0)) X :=
  ⟨h.s0, (fun _ => rfl), h.s2, h.s3, h.s4, h.s5, h.s6, h.s9, h.s10, h.s11, h.bel, h.e7, h.e8, h.e12⟩
theorem TlI.op2 (h : TlI V p0 p9 ov sv x S R dn val X) : TlI V p0 p9 ov sv x S R (andB dn 2) (updV val 2 (p0)) X :=
  ⟨h.s0, h.s1, (fun _ => rfl), h.s3, h.s4, h.s5, h.s6, h.s9, h.s10, h.s11, h.bel, h.e7, h.e8, h.e12⟩
theorem TlI.op3 (h : TlI V p0 p9 ov sv x S R dn val X) : TlI V p0 p9 ov sv x S R (andB dn 3) (updV val 3 (p0)) X :=
  ⟨h.s0, h.s1, h.s2, (fun _ => rfl), h.s4, h.s5, h.s6, h.s9, h.s10, h.s11, h.bel, h.e7, h.e8, h.e12⟩
theorem TlI.op4 (h : TlI V p0 p9 ov sv x S R dn val X) : TlI V p0 p9 ov sv x S R (andB dn 4) (updV val 4 (p9)) X :=
  ⟨h.s0, h.s1, h.s2, h.s3, (fun _ => rfl), h.s5, h.s6, h.s9, h.s10, h.s11, h.bel, h.e7, h.e8, h.e12⟩
theorem TlI.op5 (h : TlI V p0 p9 ov sv x S R dn val X) : TlI V p0 p9 ov sv x S R (andB dn 5) (updV val 5 (ov)) X :=
  ⟨h.s0, h.s1, h.s2, h.s3, h.s4, (fun _ => rfl), h.s6, h.s9, h.s10, h.s11, h.bel, h.e7, h.e8, h.e12⟩
theorem TlI.op6 (h : TlI V p0 p9 ov sv x S R dn val X) : TlI V p0 p9 ov sv x S R (andB dn 6) (updV val 6 ((lnV x sv))) X :=
  ⟨h.s0, h.s1, h.s2, h.s3, h.s4, h.s5, (fun _ => rfl), h.s9, h.s10, h.s11, h.bel, h.e7, h.e8, h.e12⟩
theorem TlI.op9 (h : TlI V p0 p9 ov sv x S R dn val X) : TlI V p0 p9 ov sv x S R (andB dn 9) (updV val 9 (p0)) X :=
  ⟨h.s0, h.s1, h.s2, h.s3, h.s4, h.s5, h.s6, (fun _ => rfl), h.s10, h.s11, h.bel, h.e7, h.e8, h.e12⟩
theorem TlI.op10 (h : TlI V p0 p9 ov sv x S R dn val X) : TlI V p0 p9 ov sv x S R (andB dn 10) (updV val 10 (p0)) X :=
  ⟨h.s0, h.s1, h.s2, h.s3, h.s4, h.s5, h.s6, h.s9, (fun _ => rfl), h.s11, h.bel, h.e7, h.e8, h.e12⟩
theorem TlI.op11 (h : TlI V p0 p9 ov sv x S R dn val X) : TlI V p0 p9 ov sv x S R (andB dn 11) (updV val 11 (p9)) X :=
  ⟨h.s0, h.s1, h.s2, h.s3, h.s4, h.s5, h.s6, h.s9, h.s10, (fun _ => rfl), h.bel, h.e7, h.e8, h.e12⟩
theorem TlI.op7 (h : TlI V p0 p9 ov sv x S R dn val X) (n8 : dn 8 = false) (n12 : dn 12 = false) : TlI V p0 p9 ov sv x S R (andB dn 7) (updV val 7 (.slice (some ⟨X.heap.size, 0, none⟩) 1 1)) (X.alloc (.cells #[.int .i64 x.nm, .int .i64 x.lo, .int .i64 x.hi, sv] 83)) :=
  ⟨h.s0, h.s1, h.s2, h.s3, h.s4, h.s5, h.s6, h.s9, h.s10, h.s11, (fun n => (h.bel n).alloc (h.bel n).size _), (fun _ _ => ⟨_, rfl, World.alloc_heap_new X _⟩), (fun d => f_t n8 d), (fun d => f_t n12 d)⟩
theorem TlI.op8 (h : TlI V p0 p9 ov sv x S R dn val X) (n12 : dn 12 = false) {v : Value} (hS : S v Y) : TlI V p0 p9 ov sv x S R (andB dn 8) (updV val 8 v) Y :=
  ⟨h.s0, h.s1, h.s2, h.s3, h.s4, h.s5, h.s6, h.s9, h.s10, h.s11, (fun n => nomatch n), (fun _ n => nomatch n), (fun _ _ => hS), (fun d => f_t n12 d)⟩
theorem TlI.op12 (h : TlI V p0 p9 ov sv x S R dn val X) (y8 : dn 8 = true) (v : Value) (hR : R Y) : TlI V p0 p9 ov sv x S R (andB dn 12) (updV val 12 v) Y :=
  ⟨h.s0, h.s1, h.s2, h.s3, h.s4, h.s5, h.s6, h.s9, h.s10, h.s11, (fun n => f_t n y8), (fun _ n => f_t n y8), (fun _ n => nomatch n), (fun _ => hR)⟩
end
def lnStep (r : Rd) (fs : List (List UInt8)) : Option Ln := match lnR fs with
  | none => none
  | some x => if r.pg.ls.length = 200 then none else some x
def rdAdd (r : Rd) (x : Ln) : Rd := ⟨r.pg.add x, r.tk, r.dn⟩
/-- behind the append -/
def TlS (W : World) (T : Nat) (r : Rd) (x : Ln) (wr : World) (vs : Value) (v : Value) (X : World) : Prop :=
  (∃ vals, LoI W T (r.pg.ls ++ [x]) vals v X) ∧ (∃ Z, Below wr.heap.size wr Z ∧ Z.grownBy X vs.ownBlock) ∧ (v.ownBlock = vs.ownBlock ∨ ∃ k, v.ownBlock = some k ∧ wr.heap.size ≤ k)
/-- behind the store -/
def TlR (W : World) (rb T lb : Nat) (r : Rd) (x : Ln) (sv : Value) (wr : World) (vs : Value) (X : World) : Prop :=
  ∃ vs', RdI W rb T (rdAdd r x) vs' X ∧ RdK rb vs.ownBlock wr X ∧ X.heap[lb]? = some (.cells #[.int .i64 x.nm, .int .i64 x.lo, .int .i64 x.hi, sv] 83) ∧ (vs'.ownBlock = vs.ownBlock ∨ ∃ k, vs'.ownBlock = some k ∧ wr.heap.size ≤ k) ∧ InSl X X.heap.size sv x.sn
theorem tl_keep {W : World} {rb T : Nat} {r : Rd} {vs : Value} {wr Z X : World} (h : RdI W rb T r vs wr) (hb : Below wr.heap.size wr Z) (hg : Z.grownBy X vs.ownBlock) : X.heap[rb]? = some (.cells (rdC r vs) 129) := by
  obtain ⟨vals, hl⟩ := h.lo
  refine (hg.block _ (Nat.lt_of_lt_of_le h.lt hb.size) fun e => ?_).trans ((hb.block _ h.lt).trans h.box)
  have := hl.ot rb e.symm
  have := h.b1
  omega
theorem tl_store {W : World} {rb T lb : Nat} {r : Rd} {vs : Value} {x : Ln} {sv : Value} {wr Z X : World} {v : Value} {vals : List Value} (h : RdI W rb T r vs wr) (hlb : wr.heap[lb]? = some (.cells #[.int .i64 x.nm, .int .i64 x.lo, .int .i64 x.hi, sv] 83)) (hlt : (vs.ownBlock ≠ some lb ∧ lb ≠ rb) ∧ InSl wr wr.heap.size sv x.sn ∧ ∀ g, sv.ownBlock = some g → vs.ownBlock ≠ some g ∧ g ≠ rb ∧ g < wr.heap.size) (hb : Below wr.heap.size wr Z)
    (k1 : LoI W T (r.pg.ls ++ [x]) vals v X) (k2 : Z.grownBy X vs.ownBlock) (k3 : v.ownBlock = vs.ownBlock ∨ ∃ k, v.ownBlock = some k ∧ wr.heap.size ≤ k) : TlR W rb T lb r x sv wr vs (X.setCell ⟨rb, 9, none⟩ v) := by
  have hbox := tl_keep h hb k2
  have hg : wr.grownBy X vs.ownBlock := (grown_of_below hb _).trans k2
  have hl2 : lb < wr.heap.size := (Array.getElem?_eq_some_iff.1 hlb).1
  refine ⟨v, ⟨by rw [put_cell hbox]; rfl, ⟨vals, k1.other (setCell_grown' _ _ _ _) h.b0 h.b1⟩, h.b0, h.b1⟩, ⟨hg.os, hg.tape, hg.output, by simp; exact hg.size, fun k hk h1 h2 => (put_other h1).trans (hg.block k hk h2)⟩,
    (put_other hlt.1.2).trans ((hg.block lb hl2 (fun e => hlt.1.1 e.symm)).trans hlb), k3, ?_⟩
  have e1 : InSl X X.heap.size sv x.sn := InSl.mono (hlt.2.1.keepOwn fun p hp => World.cell?_of_block (hg.block _ (hlt.2.2 _ hp).2.2 fun e => (hlt.2.2 _ hp).1 e.symm)) hg.size
  have e2 := e1.keepOwn (w' := X.setCell ⟨rb, 9, none⟩ v) fun p hp => World.cell?_of_block (put_other (hlt.2.2 _ hp).2.1)
  simpa using e2
def TkR (W : World) (rb T : Nat) (r : Rd) (vs : Value) (q : Option Rd) (w : World) (e : Ending) (w' : World) : Prop :=
  RdK rb vs.ownBlock w w' ∧ ((∃ r' vs', q = some r' ∧ e = .returned (.bool true) ∧ RdI W rb T r' vs' w' ∧ (vs'.ownBlock = vs.ownBlock ∨ ∃ k, vs'.ownBlock = some k ∧ w.heap.size ≤ k)) ∨ (q = none ∧ e = .returned (.bool false) ∧ w'.cell? ⟨rb, 10, none⟩ = some (.int .i64 r.tk)))
theorem add_off (g k i : Nat) : (⟨g, k, none⟩ : Addr).add i = ⟨g, k + i, none⟩ := by
  unfold Addr.add
  by_cases h : i = 0
  · subst h; rfl
  · rw [if_neg h]
theorem lnR_eq (fs : List (List UInt8)) : lnR fs = match fldR lnW 3 fs with
    | none => none
    | some (l, r) => match numsR r with
      | none => none
      | some s => if lnB (lnOf l s) = true then some (lnOf l s) else none := rfl
theorem fld_len {word : List UInt8} {n : Nat} {fs r : List (List UInt8)} {l : List Int} (h : fldR word n fs = some (l, r)) : l.length = n ∧ ∃ f R, fs = f :: R ∧ n ≤ R.length ∧ r = R.drop n := by
  unfold fldR at h
  cases fs with
  | nil => cases h
  | cons f R =>
    simp only at h
    split at h
    · split at h
      · rename_i hn
        split at h
        · cases h
        · rename_i l' hl
          simp only [Option.some.injEq, Prod.mk.injEq] at h
          obtain ⟨rfl, rfl⟩ := h
          exact ⟨by rw [numsR_len hl, List.length_take]; omega, f, R, rfl, hn, rfl⟩
      · cases h
    · cases h
theorem list3 {l : List Int} (h : l.length = 3) : ∃ a b c, l = [a, b, c] := by
  match l, h with
  | [a, b, c], _ => exact ⟨a, b, c, rfl⟩
theorem tk_no {W : World} {rb T : Nat} {r : Rd} {vs : Value} {w w' : World} {q : Option Rd} (hd : RdI W rb T r vs w) (hb : Below w.heap.size w w') (hq : q = none) : TkR W rb T r vs q w (.returned (.bool false)) w' :=
  ⟨RdK.of_below hb, .inr ⟨hq, rfl, (rd_cells (hd.step hb).box).2.1⟩⟩
set_option maxRecDepth 100000 in
set_option maxHeartbeats 16000000 in
theorem takeLine_any (W w : World) (rb T fg : Nat) (r : Rd) (vs : Value) (f0 : List UInt8) (R : List (List UInt8)) (hd : RdI W rb T r vs w) (hF : StB w fg (f0 :: R)) (hFl : ∀ f ∈ f0 :: R, f.length ≤ 100000) (hRl : R.length ≤ 100000) (hlen : r.pg.ls.length ≤ 200) (hG : GlO W) :
    Calls Tryz.prog 148 #[.pointer (some ⟨rb, 0, none⟩), .slice (some ⟨fg, 0, none⟩) (f0 :: R).length (f0 :: R).length] w (TkR W rb T r vs ((lnStep r (f0 :: R)).map (rdAdd r)) w) := by
  obtain ⟨vals0, hlo⟩ := hd.lo
  have hls := hlo.slice
  have hown := fun (g : Nat) (e : vs.ownBlock = some g) => hlo.lt e
  have hTb := hlo.tb
  obtain ⟨A9, c9, e9⟩ := hls
  subst e9
  obtain ⟨nl, hnl⟩ : ∃ n, r.pg.ls.length = n := ⟨_, rfl⟩
  have HNl := Lib.hid hnl
  rw [hnl] at hlen hd hlo hown ⊢
  have hb1 := below_new (w := w) (.cells #[.int .i64 0, .int .i64 0, .int .i64 0, .slice none 0 0] 83)
  have hn1 := World.alloc_heap_new w (.cells #[.int .i64 0, .int .i64 0, .int .i64 0, .slice none 0 0] 83)
  obtain ⟨V0, hV0⟩ : ∃ V, w.alloc (.cells #[.int .i64 0, .int .i64 0, .int .i64 0, .slice none 0 0] 83) = V := ⟨_, rfl⟩
  have hz0 : V0.heap.size = w.heap.size + 1 := by rw [← hV0]; simp
  rw [hV0] at hb1 hn1
  have hb2 := below_new (w := V0) (.cells #[.pointer (some ⟨w.heap.size, 0, none⟩), .pointer (some ⟨w.heap.size, 1, none⟩), .pointer (some ⟨w.heap.size, 2, none⟩)] 240)
  have hn2 := World.alloc_heap_new V0 (.cells #[.pointer (some ⟨w.heap.size, 0, none⟩), .pointer (some ⟨w.heap.size, 1, none⟩), .pointer (some ⟨w.heap.size, 2, none⟩)] 240)
  obtain ⟨V1, hV1⟩ : ∃ V, V0.alloc (.cells #[.pointer (some ⟨w.heap.size, 0, none⟩), .pointer (some ⟨w.heap.size, 1, none⟩), .pointer (some ⟨w.heap.size, 2, none⟩)] 240) = V := ⟨_, rfl⟩
  rw [hV1] at hb2 hn2
  rw [hz0] at hn2
  have hbV : Below w.heap.size w V1 := hb1.trans (hb2.mono hb1.size)
  have hlbV := (hb2.block w.heap.size (by omega)).trans hn1
  have hfg : fg < w.heap.size := (Array.getElem?_eq_some_iff.1 hF).1
  have hw0 : W.heap.size ≤ w.heap.size := hd.bel.size
  have HRF := Lib.hid (show Calls Tryz.prog 199 #[.slice (some ⟨fg, 0, none⟩) (f0 :: R).length (f0 :: R).length, .string ⟨#[108, 105, 110, 101]⟩, .slice (some ⟨w.heap.size + 1, 0, none⟩) 3 3] V1 (RfR (f0 :: R) fg w.heap.size 83 #[.int .i64 0, .int .i64 0, .int .i64 0, .slice none 0 0] [0, 1, 2] lnW V1) from readFields_any f0 R fg (w.heap.size + 1) w.heap.size lnW 83 #[.int .i64 0, .int .i64 0, .int .i64 0, .slice none 0 0] [0, 1, 2] V1 W ((hbV.block fg hfg).trans hF) hn2 hlbV ⟨by omega, by omega⟩ (by
    intro k hk
    simp only [List.mem_cons, List.not_mem_nil, or_false] at hk
    rcases hk with rfl | rfl | rfl <;> exact ⟨0, rfl⟩) hFl hRl (by simp) hG (hd.bel.trans (hbV.mono hw0)) hw0)
  have HBV := Lib.hid hbV
  have HVz := Lib.hid (show w.heap.size < V1.heap.size from by have := hb2.size; omega)
  have HV0 := Lib.hid hV0
  have HV1 := Lib.hid hV1
  have HD := Lib.hid hd
  have HFg := Lib.hid hF
  have HOwn := Lib.hid hown
  have HTb := Lib.hid hTb
  have HG := Lib.hid hG
  have HFl := Lib.hid (show ∀ i f, (f0 :: R)[i]? = some f → f.length ≤ 100000 from fun i f h => hFl f (List.mem_of_getElem? h))
  have HSt := Lib.hid (show lnStep r (f0 :: R) = match lnR (f0 :: R) with | none => none | some x => if nl = 200 then none else some x from by unfold lnStep; rw [hnl])
  obtain ⟨qs, hqs⟩ : ∃ q, lnStep r (f0 :: R) = q := ⟨_, rfl⟩
  rw [hqs] at HSt ⊢
  obtain ⟨fs, hfs⟩ : ∃ fs, f0 :: R = fs := ⟨_, rfl⟩
  have HFs := Lib.hid hfs
  rw [hfs] at HRF HFg HSt HFl ⊢
  obtain ⟨nf, hnf⟩ : ∃ n, fs.length = n := ⟨_, rfl⟩
  have HNf := Lib.hid hnf
  rw [hnf] at HRF ⊢
  have hnfl : nf ≤ 100001 := by rw [← hnf, ← hfs, List.length_cons]; omega
  have hz1 : V0.heap.size = w.heap.size + 1 := hz0
  clear hd hlo hown hTb hb1 hn1 hb2 hn2 hbV hlbV hfg hF hFl hRl hG hnl hqs hfs hnf hz1 hV0 hV1
  go_enter Tryz.func148, Tryz.ntmps148
  go_wp2_with fail
  rw [HV0.out]
  (try go_wp2_with fail)
  rw [HV1.out]
  (try go_wp2_with fail)
  refine HRF.out.mono ?_
  rintro e w2 ⟨hgr, hR⟩
  have hbw2 : Below w.heap.size w w2 := HBV.out.grown hgr HBV.out.size (fun r e => by cases e; exact Nat.le_refl _)
  have HB2 := Lib.hid hbw2
  rcases hR with ⟨l, rr, ad, hfd, rfl, had, hcs⟩ | ⟨hfd, rfl, -⟩
  rotate_left
  · have HQ := Lib.hid (show qs.map (rdAdd r) = none from by rw [HSt.out, lnR_eq, show fldR lnW 3 fs = none from hfd]; rfl)
    clear hgr hfd HRF
    go_wp2_with fail
    go_ret
    exact tk_no HD.out HB2.out HQ.out
  · obtain ⟨hl3, g0, R0, hfs0, hR3, hrr⟩ := fld_len hfd
    obtain ⟨la, lb, lc, rfl⟩ := list3 hl3
    have hcs2 : w2.heap[w.heap.size]? = some (.cells #[.int .i64 la, .int .i64 lb, .int .i64 lc, .slice none 0 0] 83) := hcs
    have HD2 := Lib.hid (HD.out.step hbw2)
    have k9 := (rd_cells HD2.out.box).1.2.2.2.2.2.2.2.2.2
    have HSt2 := Lib.hid (show qs = match numsR rr with | none => none | some s => if lnB (lnOf [la, lb, lc] s) = true then (if nl = 200 then none else some (lnOf [la, lb, lc] s)) else none from by
      rw [HSt.out, lnR_eq, show fldR lnW 3 fs = some ([la, lb, lc], rr) from hfd]
      simp only
      cases numsR rr with
      | none => rfl
      | some s =>
        simp only
        by_cases hx : lnB (lnOf [la, lb, lc] s) = true
        · rw [if_pos hx, if_pos hx]
        · rw [if_neg hx, if_neg hx])
    have HCs := Lib.hid hcs2
    obtain ⟨kr, hkr⟩ : ∃ k, rr.length = k := ⟨_, rfl⟩
    have hkr2 : nf - (1 + [0, 1, 2].length) = kr := by rw [← hkr, hrr, List.length_drop, ← HNf.out, hfs0, List.length_cons]; simp
    have HKr := Lib.hid hkr
    have HEl := Lib.hid (show ∀ i f, rr[i]? = some f → f.length ≤ 100000 ∧ ∀ X, Below w.heap.size w X → X.cell? (ad.add i) = some (str f) from fun i f hf => by
      have hi := (List.getElem?_eq_some_iff.1 hf).1
      have e1 : fs[4 + i]? = some f := by
        rw [hfs0, show 4 + i = (3 + i) + 1 by omega, List.getElem?_cons_succ]
        rw [hrr, List.getElem?_drop] at hf
        exact hf
      refine ⟨HFl.out _ _ e1, fun X hX => ?_⟩
      rw [had (by have := HNf.out; simp at hkr2 ⊢; omega)]
      have := StB.at_ (F := fs) ((hX.block fg (Array.getElem?_eq_some_iff.1 HFg.out).1).trans HFg.out) e1
      rw [show 1 + [0, 1, 2].length = 4 from rfl, add_off]
      exact this)
    rw [HNf.out, hkr2]
    have hkl : kr ≤ 100001 := by omega
    clear hgr hfd hl3 hfs0 hR3 hrr had hcs hcs2 hkr hkr2 HRF HSt
    by_cases h200 : nl = 200
    · have HQ := Lib.hid (show qs.map (rdAdd r) = none from by
        rw [HSt2.out]
        cases numsR rr with
        | none => rfl
        | some s =>
          simp only
          by_cases hx : lnB (lnOf [la, lb, lc] s) = true
          · rw [if_pos hx, if_pos h200]; rfl
          · rw [if_neg hx]; rfl)
      have h2i : (nl : Int) = 200 := by omega
      go_wp2_with fail
      go_ret
      exact tk_no HD.out HB2.out HQ.out
    · have h2i : ((nl : Int) == 200) = false := by simp; omega
      have H2 := Lib.hid h200
      clear h200
      go_wp2_with fail
      go_loopw [36] (fun iv wr => ∃ (i : Nat) (S : List Int) (sv : Value), iv = .int .i64 (i : Int) ∧ i ≤ kr ∧ numsR (rr.take i) = some S ∧ OwN w sv S wr ∧ wr.heap[w.heap.size]? = some (.cells #[.int .i64 la, .int .i64 lb, .int .i64 lc, sv] 83)) (fun iv _ => kr - (intOf iv).toNat)
      case atStart => exact ⟨0, [], .slice none 0 0, rfl, by omega, rfl, ⟨HB2.out, World.ownsRow_nil _ _ _ _⟩, HCs.out⟩
      case round =>
        obtain ⟨i, S, sv, rfl, hin, hS, hO, hL⟩ := hrel
        have HS := Lib.hid hS
        have HO := Lib.hid hO
        have HL := Lib.hid hL
        have HSl := Lib.hid (show S.length = i from by rw [numsR_len hS, List.length_take, HKr.out]; omega)
        by_cases hlt : i < kr
        · obtain ⟨f, hf⟩ : ∃ f, rr[i]? = some f := ⟨_, List.getElem?_eq_getElem (by rw [HKr.out]; exact hlt)⟩
          obtain ⟨hfl, hfc⟩ := HEl.out i f hf
          have cf := hfc wr hO.bel
          have HNum := Lib.hid (readNumber_any f wr hfl (HG.out.below (HD.out.bel.trans (hO.bel.mono hw0))))
          obtain ⟨q, hq⟩ : ∃ q, numR f = q := ⟨_, rfl⟩
          rw [hq] at HNum
          have HQ := Lib.hid (And.intro hf hq)
          unfold str at HNum cf
          obtain ⟨sx, hsx⟩ : ∃ s : ByteArray, (⟨f.toArray⟩ : ByteArray) = s := ⟨_, rfl⟩
          rw [hsx] at HNum cf
          clear hf hfl hfc hq hsx hS hO hL
          cases q with
          | none =>
            have HF := Lib.hid (show qs.map (rdAdd r) = none from by rw [HSt2.out, nums_none HQ.out.1 HQ.out.2]; rfl)
            go_wp2_with fail
            refine HNum.out.mono ?_
            rintro e w3 ⟨rfl, hb⟩
            have HB3 := Lib.hid (HO.out.bel.trans (hb.mono HO.out.bel.size))
            clear hb
            go_wp2_with fail
            go_ret
            exact tk_no HD.out HB3.out HF.out
          | some n =>
            have HN2 := Lib.hid (nums_next HS.out HQ.out.1 HQ.out.2)
            go_wp2_with fail
            refine HNum.out.mono ?_
            rintro e w3 ⟨rfl, hb⟩
            have hO3 := HO.out.step hb
            have hL3 := (hb.block _ (Array.getElem?_eq_some_iff.1 HL.out).1).trans HL.out
            have hbn := below_new (w := w3) (.cells #[.int .i64 n] 3)
            have hnn := World.alloc_heap_new w3 (.cells #[.int .i64 n] 3)
            obtain ⟨V3, hV3⟩ : ∃ V, w3.alloc (.cells #[.int .i64 n] 3) = V := ⟨_, rfl⟩
            rw [hV3] at hbn hnn
            have hL4 := (hbn.block _ (Array.getElem?_eq_some_iff.1 hL3).1).trans hL3
            have HO4 := Lib.hid (hO3.step hbn)
            have HL4 := Lib.hid hL4
            have HBx := Lib.hid (box_sl hnn)
            have HV3 := Lib.hid hV3
            have HLe := Lib.hid (show S.length + [n].length ≤ 3000000 from by rw [HSl.out]; simp; omega)
            obtain ⟨Asv, csv, hesv, _⟩ := HO.out.sl.form
            subst hesv
            obtain ⟨_, _, _, d3⟩ := cells_four hL3
            clear hb hO3 hL3 hbn hnn hL4
            go_wp2_with (at_builtin; refine wpList_appN rfl _ _ rfl HO4.out rfl rfl HBx.out HLe.out ?_; intro v6 w6 hI6 hg6; refine Hid.out ?_)
            refine Lib.hid ?_
            have hL6 := (hg6.block _ (Array.getElem?_eq_some_iff.1 HL4.out).1 (fun e => by rcases not_line_own HO4.out.own HL4.out with h | h; rw [h] at e; cases e; exact h e.symm)).trans HL4.out
            obtain ⟨A6, c6, he6, _⟩ := hI6.sl.form
            rw [show (S ++ [n]).length = S.length + 1 from by simp] at he6
            subst he6
            obtain ⟨_, _, _, d6⟩ := cells_four hL6
            have f6 := frozen_cells hL6 3
            have hL7 : (w6.setCell ⟨w.heap.size, 3, none⟩ (.slice A6 (S.length + 1) c6)).heap[w.heap.size]? = some (.cells #[.int .i64 la, .int .i64 lb, .int .i64 lc, .slice A6 (S.length + 1) c6] 83) := by rw [put_cell hL6]; rfl
            have HL7 := Lib.hid hL7
            have HO7 := Lib.hid (show OwN w (.slice A6 (S.length + 1) c6) (S ++ [n]) (w6.setCell ⟨w.heap.size, 3, none⟩ (.slice A6 (S.length + 1) c6)) from ⟨hI6.bel.setCell (Nat.le_refl _) _, hI6.own.kept (setCell_grown' _ _ _ _) (not_line_own hI6.own hL6)⟩)
            have HSn := Lib.hid (show (S ++ [n]).length = i + 1 from by rw [List.length_append, HSl.out]; rfl)
            clear hI6 hg6 hL6 hL7 d3
            go_wp2_with fail
            go_roundw
            case rel => exact ⟨i + 1, S ++ [n], _, by go_num, by omega, HN2.out, HO7.out, HL7.out⟩
            case measure => simp [intOf]; omega
        · obtain rfl : kr = i := by omega
          have hSall : numsR rr = some S := by
            rw [List.take_of_length_le (by rw [HKr.out]; exact Nat.le_refl _)] at hS
            exact hS
          have HSt3 := Lib.hid (show qs = if lnB (lnOf [la, lb, lc] S) = true then some (lnOf [la, lb, lc] S) else none from by
            rw [HSt2.out, hSall]
            simp only
            by_cases hx : lnB (lnOf [la, lb, lc] S) = true
            · rw [if_pos hx, if_pos hx, if_neg H2.out]
            · rw [if_neg hx, if_neg hx])
          obtain ⟨x, hx⟩ : ∃ x, lnOf [la, lb, lc] S = x := ⟨_, rfl⟩
          have hL8 : wr.heap[w.heap.size]? = some (.cells #[.int .i64 x.nm, .int .i64 x.lo, .int .i64 x.hi, sv] 83) := by rw [← hx]; exact hL
          have hsn : x.sn = S := by rw [← hx]; rfl
          rw [hx] at HSt3
          have HRd := Lib.hid (HD.out.step hO.bel)
          have HLb := Lib.hid hL8
          have hsv : InSl wr wr.heap.size sv x.sn := by rw [hsn]; exact hO.sl
          have hsb : ∀ g, sv.ownBlock = some g → w.heap.size ≤ g ∧ g < wr.heap.size := fun g e => hO.own.lt g e
          have HSv := Lib.hid (show InSl wr wr.heap.size sv x.sn ∧ ∀ g, sv.ownBlock = some g → T ≤ g ∧ (Value.slice A9 nl c9).ownBlock ≠ some g ∧ g < wr.heap.size from ⟨hsv, fun g e => ⟨Nat.le_trans HTb.out (hsb g e).1, fun e2 => by have := (HOwn.out _ e2).2; have := (hsb g e).1; omega, (hsb g e).2⟩⟩)
          have HLe := Lib.hid (show r.pg.ls.length ≤ 100000 from by rw [HNl.out]; omega)
          have HLt := Lib.hid (show ((Value.slice A9 nl c9).ownBlock ≠ some w.heap.size ∧ w.heap.size ≠ rb) ∧ InSl wr wr.heap.size sv x.sn ∧ ∀ g, sv.ownBlock = some g → (Value.slice A9 nl c9).ownBlock ≠ some g ∧ g ≠ rb ∧ g < wr.heap.size from
            ⟨⟨fun e2 => by have := (HOwn.out _ e2).2; omega, by have := HD.out.lt; omega⟩, hsv, fun g e => ⟨fun e2 => by have := (HOwn.out _ e2).2; have := (hsb g e).1; omega, by have := HD.out.lt; have := (hsb g e).1; omega, (hsb g e).2⟩⟩)
          have HBw := Lib.hid hO.bel
          have HXl := Lib.hid (show x.sn.length ≤ 1000000 from by rw [hsn, HSl.out]; omega)
          clear hS hO hL hL8 hSall hsn hsv hsb hx
          go_wp2_with fail
          refine wp_opaque ?_
          intro t0 ht0
          have hsz0 : t0.size = 68 := by rw [ht0]; rfl
          have q0 : t0.getD 0 undef = .pointer (some ⟨rb, 0, none⟩) := by rw [ht0]; rfl
          have q5 : t0.getD 5 undef = .pointer (some ⟨w.heap.size, 0, none⟩) := by rw [ht0]; rfl
          have HT0 := Lib.hid ht0
          clear ht0
          have HBd := Lib.hid (fun X (hI : Below wr.drew.heap.size wr.drew X) => (Below.refl wr.heap.size wr).drew.trans hI)
          refine wp_region_vals [some 54, some 55, some 56, some 57, some 58, some 59, some 60, some 61, some 62, some 63, some 64, some 65, none] (TlI wr.drew (.pointer (some ⟨rb, 0, none⟩)) (.pointer (some ⟨rb, 9, none⟩)) (.slice A9 nl c9) sv x (TlS W T r x wr (.slice A9 nl c9)) (TlR W rb T w.heap.size r x sv wr (.slice A9 nl c9))) (by kernel_rfl) (by kernel_rfl) rfl rfl (by simp [hsz0]) (by kernel_rfl) ?_ ?_ ?_
          · intro val
            exact ⟨(fun h => nomatch h), (fun h => nomatch h), (fun h => nomatch h), (fun h => nomatch h), (fun h => nomatch h), (fun h => nomatch h), (fun h => nomatch h), (fun h => nomatch h), (fun h => nomatch h), (fun h => nomatch h), fun _ => Below.refl _ _, (fun h => nomatch h), (fun h => nomatch h), (fun h => nomatch h)⟩
          · intro dn qq o hi hd hp hc val X a ha hn' hI K hK
            have hq : qq < 13 := by
              have := (Array.getElem?_eq_some_iff.1 hi).1
              simpa using this
            have bf : ∀ {q : Bool}, (q = true → False) → q = false := fun {q} h => by cases q; rfl; exact (h rfl).elim
            have c12 : dn 12 = true → dn 8 = true := fun h => hc 12 _ rfl h ⟨8, .data⟩ (by simp) rfl
            have c8 : dn 8 = true → dn 5 = true ∧ dn 7 = true := fun h => ⟨hc 8 _ rfl h ⟨5, .data⟩ (by simp) rfl, hc 8 _ rfl h ⟨7, .data⟩ (by simp) rfl⟩
            have c7 : dn 7 = true → dn 6 = true := fun h => hc 7 _ rfl h ⟨6, .data⟩ (by simp) rfl
            rcases (show qq = 0 ∨ qq = 1 ∨ qq = 2 ∨ qq = 3 ∨ qq = 4 ∨ qq = 5 ∨ qq = 6 ∨ qq = 7 ∨ qq = 8 ∨ qq = 9 ∨ qq = 10 ∨ qq = 11 ∨ qq = 12 by omega) with rfl | rfl | rfl | rfl | rfl | rfl | rfl | rfl | rfl | rfl | rfl | rfl | rfl
            · obtain rfl := Option.some.inj hi
              exact opMove 0 _ rfl ((ha 0).trans q0) (hK _ _ hI.op0)
            · obtain rfl := Option.some.inj hi
              exact opMove 0 _ rfl ((ha 0).trans q0) (hK _ _ hI.op1)
            · obtain rfl := Option.some.inj hi
              exact opNil 55 _ rfl ((ha 55).trans (hI.s1 (hp ⟨1, .data⟩ (by simp) rfl))) (hK _ _ hI.op2)
            · obtain rfl := Option.some.inj hi
              exact opFieldRd 56 _ rfl ((ha 56).trans (hI.s2 (hp ⟨2, .data⟩ (by simp) rfl))) (hK _ _ hI.op3)
            · obtain rfl := Option.some.inj hi
              exact opFieldPg 57 _ rfl ((ha 57).trans (hI.s3 (hp ⟨3, .data⟩ (by simp) rfl))) (hK _ _ hI.op4)
            · obtain rfl := Option.some.inj hi
              have n8 : dn 8 = false := bf fun h => f_t hd (c8 h).1
              have hBX := HBd.out X (hI.bel n8)
              exact opLdLs 58 _ _ rfl ((ha 58).trans (hI.s4 (hp ⟨4, .data⟩ (by simp) rfl))) (rd_cells ((hBX.block _ HRd.out.lt).trans HRd.out.box)).1.2.2.2.2.2.2.2.2.2 (hK _ _ hI.op5)
            · obtain rfl := Option.some.inj hi
              have n8 : dn 8 = false := bf fun h => f_t hd (c7 (c8 h).2)
              have hBX := HBd.out X (hI.bel n8)
              exact opLdLn 5 _ _ _ _ _ rfl ((ha 5).trans q5) ((hBX.block _ (Array.getElem?_eq_some_iff.1 HLb.out).1).trans HLb.out) (hK _ _ hI.op6)
            · obtain rfl := Option.some.inj hi
              have n8 : dn 8 = false := bf fun h => f_t hd (c8 h).2
              have n12 : dn 12 = false := bf fun h => f_t n8 (c12 h)
              exact opBoxLn 60 _ _ _ _ rfl ((ha 60).trans (hI.s6 (hp ⟨6, .data⟩ (by simp) rfl))) (hK _ _ (hI.op7 n8 n12))
            · obtain rfl := Option.some.inj hi
              have n12 : dn 12 = false := bf fun h => f_t hd (c12 h)
              obtain ⟨g, e7, hg⟩ := hI.e7 (hp ⟨7, .data⟩ (by simp) rfl) hd
              have hBX := HBd.out X (hI.bel hd)
              obtain ⟨vals, hlo⟩ := HRd.out.lo
              refine run_app_ln (.tmp 59) (.tmp 61) rfl ((ha 59).trans (hI.s5 (hp ⟨5, .data⟩ (by simp) rfl))) (hlo.step hBX) g ((ha 61).trans e7) hg (HSv.out.1.step hBX) (fun g' e => ⟨fun e2 => (HSv.out.2 g' e).2.1 e2, Nat.lt_of_lt_of_le (HSv.out.2 g' e).2.2 hBX.size⟩) (fun g' e => (HSv.out.2 g' e).1) HLe.out ?_
              intro v' w' k1 k2 k3
              exact hK _ _ (hI.op8 n12 ⟨⟨_, k1⟩, ⟨X, hBX, k2⟩, k3.imp id (fun e => ⟨_, e, hBX.size⟩)⟩)
            · obtain rfl := Option.some.inj hi
              exact opNil 54 _ rfl ((ha 54).trans (hI.s0 (hp ⟨0, .data⟩ (by simp) rfl))) (hK _ _ hI.op9)
            · obtain rfl := Option.some.inj hi
              exact opFieldRd 63 _ rfl ((ha 63).trans (hI.s9 (hp ⟨9, .data⟩ (by simp) rfl))) (hK _ _ hI.op10)
            · obtain rfl := Option.some.inj hi
              exact opFieldPg 64 _ rfl ((ha 64).trans (hI.s10 (hp ⟨10, .data⟩ (by simp) rfl))) (hK _ _ hI.op11)
            · obtain rfl := Option.some.inj hi
              have y8 := hp ⟨8, .data⟩ (by simp) rfl
              obtain ⟨⟨vals', k1⟩, ⟨Z, hBZ, k2⟩, k3⟩ := hI.e8 y8 hd
              obtain ⟨A8, c8', e8⟩ := k1.slice
              have hbox := tl_keep HRd.out (hBZ.trans (Below.refl _ _)) k2
              have hc9 := (rd_cells hbox).1.2.2.2.2.2.2.2.2.2
              refine opStoreLs 65 62 _ _ _ _ _ _ rfl ((ha 65).trans (hI.s11 (hp ⟨11, .data⟩ (by simp) rfl))) ((ha 62).trans e8) hc9 (frozen_cells hbox 9) (hK _ _ (hI.op12 y8 _ ?_))
              rw [← e8]
              exact tl_store HRd.out HLb.out HLt.out hBZ k1 k2 k3
          · intro dn val X hdn hI
            have HF := Lib.hid (hI.e12 (hdn 12 (by simp)))
            simp only [wrS, HT0.out]
            simp only [List.setIfInBounds_toArray, List.set_cons_succ, List.set_cons_zero]
            (try simp only [Exit.then])
            clear hdn hI HT0 hsz0 q0 q5 HBd
            generalize val 0 = z0 at *
            generalize val 1 = z1 at *
            generalize val 2 = z2 at *
            generalize val 3 = z3 at *
            generalize val 4 = z4 at *
            generalize val 5 = z5 at *
            generalize val 6 = z6 at *
            generalize val 7 = z7 at *
            generalize val 8 = z8 at *
            generalize val 9 = z9 at *
            generalize val 10 = z10 at *
            generalize val 11 = z11 at *
            obtain ⟨vs', hd', hk', hlb', hob', hsv'⟩ := HF.out
            obtain ⟨d0, d1, d2, d3⟩ := cells_four hlb'
            have HLn := Lib.hid (isLine_any x sv X hsv' HXl.out)
            unfold lnV at HLn
            have HE := Lib.hid (And.intro hd' (And.intro hk' hob'))
            obtain ⟨bx, hbx⟩ : ∃ b, lnB x = b := ⟨_, rfl⟩
            rw [hbx] at HLn HSt3
            clear hd' hk' hlb' hob' hsv' HF hbx
            (try go_wp2_with fail)
            refine HLn.out.mono ?_
            rintro e w9 ⟨rfl, hb⟩
            have HB9 := Lib.hid hb
            have HK9 := Lib.hid (((RdK.of_below (rb := rb) (ow := (Value.slice A9 nl c9).ownBlock) HBw.out).trans HE.out.2.1 (.inl rfl)).trans (RdK.of_below (rb := rb) (ow := (Value.slice A9 nl c9).ownBlock) hb) (.inl rfl))
            clear hb d0 d1 d2 d3
            cases bx with
            | false =>
              have HQ := Lib.hid (show qs.map (rdAdd r) = none from by rw [HSt3.out]; rfl)
              go_wp2_with fail
              go_ret
              exact ⟨HK9.out, .inr ⟨HQ.out, rfl, (rd_cells (HE.out.1.step HB9.out).box).2.1⟩⟩
            | true =>
              have HQ := Lib.hid (show qs.map (rdAdd r) = some (rdAdd r x) from by rw [HSt3.out]; rfl)
              go_wp2_with fail
              go_ret
              exact ⟨HK9.out, .inl ⟨_, vs', HQ.out, rfl, HE.out.1.step HB9.out, HE.out.2.2.imp id (fun ⟨k, e1, e2⟩ => ⟨k, e1, Nat.le_trans HBw.out.size e2⟩)⟩⟩
end Go.Proofs.YtijidcigfdblaaaGreatDoor
