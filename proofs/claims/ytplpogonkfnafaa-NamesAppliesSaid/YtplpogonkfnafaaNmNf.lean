/- The reference: Copy. -/
import Derived.Test.YtplpogonkfnafaaNmNe
import Derived.Test.YtplpogonkfnafaaNmNb
namespace Go.Proofs.Ytplpogonkfnafaa
open Go.RowKit Go.Nm

theorem LgI.bk_q2 {W : World} {gb : Nat} {F : List Int} {L : List Ch} {vals : List Value} {f vs : Value} {X Y Z : World} (h : LgI W gb F L vals f vs X) {q q2 : Nat} (hq : q < W.heap.size) (hq2 : q2 < W.heap.size) (hg : X.grownBy Y (some q)) (hg2 : Y.grownBy Z (some q2)) : BkV Z (.agg #[f, vs]) ⟨F, L⟩ vs := by
  have hk : ∀ {u : Value} {M : List Int}, Fa W.heap.size gb vs X u M → InSl Z Z.heap.size u M := fun {u M} h => keep_grown (keep_grown h.1 (fun g e => ⟨fun e2 => by injection e2 with e2; have := (h.2 g e).1; omega, (h.2 g e).2.2.2⟩) hg) (fun g e => ⟨fun e2 => by injection e2 with e2; have := (h.2 g e).1; omega, Nat.lt_of_lt_of_le (h.2 g e).2.2.2 hg.size⟩) hg2
  exact ⟨f, rfl, hk h.fst, els_sl h.ele ((h.own.kept hg (.inr fun e => by have := (h.own.lt q e).1; omega)).kept hg2 (.inr fun e => by have := (h.own.lt q2 e).1; omega)) fun _ _ _ e => ⟨hk e.1, hk e.2⟩⟩
def Sep (u v : Value) : Prop := ∀ g, u.ownBlock = some g → v.ownBlock ≠ some g
theorem Sep.fresh {X : World} {B z n : Nat} {t : TypeId} {v : Value} {xs : List Value} (h : X.ownsRow B t z v n xs) (k c : Nat) : Sep (.slice (some ⟨X.heap.size, 0, none⟩) k c) v := fun g e e2 => by
  have e3 : X.heap.size = g := by injection e
  have := (h.lt g e2).2; omega
theorem Sep.symm {u v : Value} (h : Sep u v) : Sep v u := fun g e e2 => h g e2 e
theorem Sep.grow {X : World} {B z n : Nat} {t : TypeId} {u u' v : Value} {xs : List Value} (h : Sep u v) (hv : X.ownsRow B t z v n xs) (hob : u'.ownBlock = u.ownBlock ∨ u'.ownBlock = some X.heap.size) : Sep u' v := fun g e e2 => by
  rcases hob with e3 | e3
  · exact h g (e3.symm.trans e) e2
  · have e4 := e3.symm.trans e; injection e4 with e4; have := (hv.lt g e2).2; omega
theorem OwN.keep {V X Y : World} {u v : Value} {L : List Int} (h : OwN V v L X) (hs : Sep u v) (hg : X.grownBy Y u.ownBlock) (hu : ∀ g, u.ownBlock = some g → V.heap.size ≤ g) : OwN V v L Y :=
  ⟨h.bel.grown hg h.bel.size hu, h.own.kept hg (by
    cases hv : v.ownBlock with
    | none => exact .inl rfl
    | some g => exact .inr fun e => hs g e.symm hv)⟩
structure CqI (V : World) (x : Ch) (S : Value → World → Prop) (R : World → Prop) (pb vs p0 p1 vf p2 vt : Value) (dn : Nat → Bool) (val : Nat → Value) (X : World) : Prop where
  s0 : dn 0 = true → val 0 = pb
  s1 : dn 1 = true → val 1 = vs
  s2 : dn 2 = true → val 2 = p0
  s3 : dn 3 = true → val 3 = .int .i64 x.yr
  s5 : dn 5 = true → val 5 = p1
  s6 : dn 6 = true → val 6 = vf
  s9 : dn 9 = true → val 9 = p2
  s10 : dn 10 = true → val 10 = vt
  s15 : dn 15 = true → val 15 = pb
  bel : dn 14 = false → Below V.heap.size V X
  e4 : dn 4 = true → dn 7 = false → OwN V (val 4) [] X
  e7 : dn 7 = true → dn 14 = false → OwN V (val 7) x.fr X
  e8 : dn 8 = true → dn 11 = false → OwN V (val 8) [] X
  e11 : dn 11 = true → dn 14 = false → OwN V (val 11) x.to X
  p48 : dn 4 = true → dn 7 = false → dn 8 = true → dn 11 = false → Sep (val 4) (val 8)
  p78 : dn 7 = true → dn 14 = false → dn 8 = true → dn 11 = false → Sep (val 7) (val 8)
  p4b : dn 4 = true → dn 7 = false → dn 11 = true → dn 14 = false → Sep (val 4) (val 11)
  e12 : dn 12 = true → val 12 = .agg #[.int .i64 x.yr, val 7, val 11]
  e13 : dn 13 = true → dn 14 = false → Cb V.heap.size x X (val 13)
  e14 : dn 14 = true → dn 16 = false → S (val 14) X
  e16 : dn 16 = true → R X
section
variable {V : World} {x : Ch} {S : Value → World → Prop} {R : World → Prop} {pb vs p0 p1 vf p2 vt : Value} {dn : Nat → Bool} {val : Nat → Value} {X Y : World}
theorem CqI.op0 (h : CqI V x S R pb vs p0 p1 vf p2 vt dn val X) : CqI V x S R pb vs p0 p1 vf p2 vt (andB dn 0) (updV val 0 (pb)) X :=
  ⟨(fun _ => rfl), h.s1, h.s2, h.s3, h.s5, h.s6, h.s9, h.s10, h.s15, h.bel, h.e4, h.e7, h.e8, h.e11, h.p48, h.p78, h.p4b, h.e12, h.e13, h.e14, h.e16⟩
theorem CqI.op1 (h : CqI V x S R pb vs p0 p1 vf p2 vt dn val X) : CqI V x S R pb vs p0 p1 vf p2 vt (andB dn 1) (updV val 1 (vs)) X :=
  ⟨h.s0, (fun _ => rfl), h.s2, h.s3, h.s5, h.s6, h.s9, h.s10, h.s15, h.bel, h.e4, h.e7, h.e8, h.e11, h.p48, h.p78, h.p4b, h.e12, h.e13, h.e14, h.e16⟩
theorem CqI.op2 (h : CqI V x S R pb vs p0 p1 vf p2 vt dn val X) : CqI V x S R pb vs p0 p1 vf p2 vt (andB dn 2) (updV val 2 (p0)) X :=
  ⟨h.s0, h.s1, (fun _ => rfl), h.s3, h.s5, h.s6, h.s9, h.s10, h.s15, h.bel, h.e4, h.e7, h.e8, h.e11, h.p48, h.p78, h.p4b, h.e12, h.e13, h.e14, h.e16⟩
theorem CqI.op3 (h : CqI V x S R pb vs p0 p1 vf p2 vt dn val X) : CqI V x S R pb vs p0 p1 vf p2 vt (andB dn 3) (updV val 3 (.int .i64 x.yr)) X :=
  ⟨h.s0, h.s1, h.s2, (fun _ => rfl), h.s5, h.s6, h.s9, h.s10, h.s15, h.bel, h.e4, h.e7, h.e8, h.e11, h.p48, h.p78, h.p4b, h.e12, h.e13, h.e14, h.e16⟩
theorem CqI.op5 (h : CqI V x S R pb vs p0 p1 vf p2 vt dn val X) : CqI V x S R pb vs p0 p1 vf p2 vt (andB dn 5) (updV val 5 (p1)) X :=
  ⟨h.s0, h.s1, h.s2, h.s3, (fun _ => rfl), h.s6, h.s9, h.s10, h.s15, h.bel, h.e4, h.e7, h.e8, h.e11, h.p48, h.p78, h.p4b, h.e12, h.e13, h.e14, h.e16⟩
theorem CqI.op6 (h : CqI V x S R pb vs p0 p1 vf p2 vt dn val X) : CqI V x S R pb vs p0 p1 vf p2 vt (andB dn 6) (updV val 6 (vf)) X :=
  ⟨h.s0, h.s1, h.s2, h.s3, h.s5, (fun _ => rfl), h.s9, h.s10, h.s15, h.bel, h.e4, h.e7, h.e8, h.e11, h.p48, h.p78, h.p4b, h.e12, h.e13, h.e14, h.e16⟩
theorem CqI.op9 (h : CqI V x S R pb vs p0 p1 vf p2 vt dn val X) : CqI V x S R pb vs p0 p1 vf p2 vt (andB dn 9) (updV val 9 (p2)) X :=
  ⟨h.s0, h.s1, h.s2, h.s3, h.s5, h.s6, (fun _ => rfl), h.s10, h.s15, h.bel, h.e4, h.e7, h.e8, h.e11, h.p48, h.p78, h.p4b, h.e12, h.e13, h.e14, h.e16⟩
theorem CqI.op10 (h : CqI V x S R pb vs p0 p1 vf p2 vt dn val X) : CqI V x S R pb vs p0 p1 vf p2 vt (andB dn 10) (updV val 10 (vt)) X :=
  ⟨h.s0, h.s1, h.s2, h.s3, h.s5, h.s6, h.s9, (fun _ => rfl), h.s15, h.bel, h.e4, h.e7, h.e8, h.e11, h.p48, h.p78, h.p4b, h.e12, h.e13, h.e14, h.e16⟩
theorem CqI.op15 (h : CqI V x S R pb vs p0 p1 vf p2 vt dn val X) : CqI V x S R pb vs p0 p1 vf p2 vt (andB dn 15) (updV val 15 (pb)) X :=
  ⟨h.s0, h.s1, h.s2, h.s3, h.s5, h.s6, h.s9, h.s10, (fun _ => rfl), h.bel, h.e4, h.e7, h.e8, h.e11, h.p48, h.p78, h.p4b, h.e12, h.e13, h.e14, h.e16⟩
theorem CqI.op4 (h : CqI V x S R pb vs p0 p1 vf p2 vt dn val X) (n7 : dn 7 = false) (n13 : dn 13 = false) (n14 : dn 14 = false) (n16 : dn 16 = false) : CqI V x S R pb vs p0 p1 vf p2 vt (andB dn 4) (updV val 4 (.slice (some ⟨X.heap.size, 0, none⟩) 0 0)) ((X.alloc (.cells #[] 3))) :=
  ⟨h.s0, h.s1, h.s2, h.s3, h.s5, h.s6, h.s9, h.s10, h.s15, (fun n => (h.bel n).trans ((below_new _).mono (h.bel n).size)), (fun _ _ => ⟨(h.bel n14).trans ((below_new _).mono (h.bel n14).size), World.ownsRow_lit (size := 1) X #[] 0 (h.bel n14).size (by unfold maxLen; omega) rfl⟩), (fun d => f_t n7 d), (fun d n => (h.e8 d n).step (below_new _)), (fun d n => (h.e11 d n).step (below_new _)), (fun _ _ d n => Sep.fresh (h.e8 d n).own 0 0), (fun d => f_t n7 d), (fun _ _ d n => Sep.fresh (h.e11 d n).own 0 0), h.e12, (fun d => f_t n13 d), (fun d => f_t n14 d), (fun d => f_t n16 d)⟩
theorem CqI.op7 (h : CqI V x S R pb vs p0 p1 vf p2 vt dn val X) (y4 : dn 4 = true) (n7 : dn 7 = false) (n12 : dn 12 = false) (n13 : dn 13 = false) (n14 : dn 14 = false) (n16 : dn 16 = false) {u : Value} (hO : OwN V u x.fr Y) (hg : X.grownBy Y (val 4).ownBlock) (hob : u.ownBlock = (val 4).ownBlock ∨ u.ownBlock = some X.heap.size) : CqI V x S R pb vs p0 p1 vf p2 vt (andB dn 7) (updV val 7 (u)) (Y) :=
  ⟨h.s0, h.s1, h.s2, h.s3, h.s5, h.s6, h.s9, h.s10, h.s15, (fun _ => hO.bel), (fun _ n => nomatch n), (fun _ _ => hO), (fun d n => (h.e8 d n).keep (h.p48 y4 n7 d n) hg (fun g e => ((h.e4 y4 n7).own.lt g e).1)), (fun d n => (h.e11 d n).keep (h.p4b y4 n7 d n) hg (fun g e => ((h.e4 y4 n7).own.lt g e).1)), (fun _ n => nomatch n), (fun _ _ d n => (h.p48 y4 n7 d n).grow (h.e8 d n).own hob), (fun _ n => nomatch n), (fun d => f_t n12 d), (fun d => f_t n13 d), (fun d => f_t n14 d), (fun d => f_t n16 d)⟩
theorem CqI.op8 (h : CqI V x S R pb vs p0 p1 vf p2 vt dn val X) (n11 : dn 11 = false) (n13 : dn 13 = false) (n14 : dn 14 = false) (n16 : dn 16 = false) : CqI V x S R pb vs p0 p1 vf p2 vt (andB dn 8) (updV val 8 (.slice (some ⟨X.heap.size, 0, none⟩) 0 0)) ((X.alloc (.cells #[] 3))) :=
  ⟨h.s0, h.s1, h.s2, h.s3, h.s5, h.s6, h.s9, h.s10, h.s15, (fun n => (h.bel n).trans ((below_new _).mono (h.bel n).size)), (fun d n => (h.e4 d n).step (below_new _)), (fun d n => (h.e7 d n).step (below_new _)), (fun _ _ => ⟨(h.bel n14).trans ((below_new _).mono (h.bel n14).size), World.ownsRow_lit (size := 1) X #[] 0 (h.bel n14).size (by unfold maxLen; omega) rfl⟩), (fun d => f_t n11 d), (fun d n _ _ => (Sep.fresh (h.e4 d n).own 0 0).symm), (fun d n _ _ => (Sep.fresh (h.e7 d n).own 0 0).symm), (fun _ _ d => f_t n11 d), h.e12, (fun d => f_t n13 d), (fun d => f_t n14 d), (fun d => f_t n16 d)⟩
theorem CqI.op11 (h : CqI V x S R pb vs p0 p1 vf p2 vt dn val X) (y8 : dn 8 = true) (n11 : dn 11 = false) (n12 : dn 12 = false) (n13 : dn 13 = false) (n14 : dn 14 = false) (n16 : dn 16 = false) {u : Value} (hO : OwN V u x.to Y) (hg : X.grownBy Y (val 8).ownBlock) (hob : u.ownBlock = (val 8).ownBlock ∨ u.ownBlock = some X.heap.size) : CqI V x S R pb vs p0 p1 vf p2 vt (andB dn 11) (updV val 11 (u)) (Y) :=
  ⟨h.s0, h.s1, h.s2, h.s3, h.s5, h.s6, h.s9, h.s10, h.s15, (fun _ => hO.bel), (fun d n => (h.e4 d n).keep (h.p48 d n y8 n11).symm hg (fun g e => ((h.e8 y8 n11).own.lt g e).1)), (fun d n => (h.e7 d n).keep (h.p78 d n y8 n11).symm hg (fun g e => ((h.e8 y8 n11).own.lt g e).1)), (fun _ n => nomatch n), (fun _ _ => hO), (fun _ _ _ n => nomatch n), (fun _ _ _ n => nomatch n), (fun d n _ _ => ((h.p48 d n y8 n11).symm.grow (h.e4 d n).own hob).symm), (fun d => f_t n12 d), (fun d => f_t n13 d), (fun d => f_t n14 d), (fun d => f_t n16 d)⟩
theorem CqI.op12 (h : CqI V x S R pb vs p0 p1 vf p2 vt dn val X)  : CqI V x S R pb vs p0 p1 vf p2 vt (andB dn 12) (updV val 12 (.agg #[.int .i64 x.yr, val 7, val 11])) (X) :=
  ⟨h.s0, h.s1, h.s2, h.s3, h.s5, h.s6, h.s9, h.s10, h.s15, h.bel, h.e4, h.e7, h.e8, h.e11, h.p48, h.p78, h.p4b, (fun _ => rfl), h.e13, h.e14, h.e16⟩
theorem CqI.op13 (h : CqI V x S R pb vs p0 p1 vf p2 vt dn val X) (n14 : dn 14 = false) (n16 : dn 16 = false) {u : Value} (hb : Below X.heap.size X Y) (hu : Cb V.heap.size x Y u) : CqI V x S R pb vs p0 p1 vf p2 vt (andB dn 13) (updV val 13 (u)) (Y) :=
  ⟨h.s0, h.s1, h.s2, h.s3, h.s5, h.s6, h.s9, h.s10, h.s15, (fun n => (h.bel n).trans (hb.mono (h.bel n).size)), (fun d n => (h.e4 d n).step hb), (fun d n => (h.e7 d n).step hb), (fun d n => (h.e8 d n).step hb), (fun d n => (h.e11 d n).step hb), h.p48, h.p78, h.p4b, h.e12, (fun _ _ => hu), (fun d => f_t n14 d), (fun d => f_t n16 d)⟩
theorem CqI.op14 (h : CqI V x S R pb vs p0 p1 vf p2 vt dn val X) (y7 : dn 7 = true) (y11 : dn 11 = true) (n16 : dn 16 = false) {u : Value} (hS : S u Y) : CqI V x S R pb vs p0 p1 vf p2 vt (andB dn 14) (updV val 14 (u)) (Y) :=
  ⟨h.s0, h.s1, h.s2, h.s3, h.s5, h.s6, h.s9, h.s10, h.s15, (fun n => nomatch n), (fun _ n => f_t n y7), (fun _ n => nomatch n), (fun _ n => f_t n y11), (fun _ n => nomatch n), (fun _ n => f_t n y7), (fun _ n => nomatch n), (fun _ n => f_t n y7), h.e12, (fun _ n => nomatch n), (fun _ _ => hS), (fun d => f_t n16 d)⟩
theorem CqI.op16 (h : CqI V x S R pb vs p0 p1 vf p2 vt dn val X) (y7 : dn 7 = true) (y11 : dn 11 = true) (y14 : dn 14 = true) {u : Value} (hR : R Y) : CqI V x S R pb vs p0 p1 vf p2 vt (andB dn 16) (updV val 16 (u)) (Y) :=
  ⟨h.s0, h.s1, h.s2, h.s3, h.s5, h.s6, h.s9, h.s10, h.s15, (fun n => f_t n y14), (fun _ n => f_t n y7), (fun _ n => f_t n y14), (fun _ n => f_t n y11), (fun _ n => f_t n y14), (fun _ n => f_t n y7), (fun _ n => f_t n y14), (fun _ n => f_t n y7), h.e12, (fun _ n => f_t n y14), (fun _ n => nomatch n), (fun _ => hR)⟩
end
set_option maxRecDepth 100000 in
set_option maxHeartbeats 16000000 in
theorem rCopy_any (v vc : Value) (b : Bk) (w : World) (hv : BkV w v b vc) (hs : Sm b) :
    Calls Try.prog 85 #[v] w fun e w' => ∃ u, e = .returned u ∧ (∃ uc, BkV w' u b uc ∧ ∀ q Y, q < w.heap.size → w'.grownBy Y (some q) → BkV Y u b uc) ∧ Below w.heap.size w w' := by
  obtain ⟨v1, rfl, h1, h2⟩ := hv
  obtain ⟨A1, c1, rfl, _⟩ := h1.form
  obtain ⟨A2, c2, rfl⟩ := h2.form
  have H1 := Lib.hid h1
  have H2 := Lib.hid h2
  have HS := Lib.hid hs
  obtain ⟨nf, hnf⟩ : ∃ n, b.first.length = n := ⟨_, rfl⟩
  obtain ⟨len, hlen⟩ : ∃ n, b.chs.length = n := ⟨_, rfl⟩
  have HLn := Lib.hid hlen
  have HFl := Lib.hid (show b.first.length ≤ 1000 from hs.1)
  have hl1 : len ≤ 1000 := by have := hs.2.1; omega
  rw [hnf] at H1
  rw [hlen] at H2
  rw [hnf, hlen]
  clear h1 h2 hs hnf hlen
  have hE1 := below_new (w := w) (.cells #[.slice A1 nf c1, .slice A2 len c2] 25)
  have hE2 := below_new (w := w.alloc (.cells #[.slice A1 nf c1, .slice A2 len c2] 25)) (.cells #[.slice none 0 0, .slice none 0 0] 25)
  have hsz1 : (w.alloc (.cells #[.slice A1 nf c1, .slice A2 len c2] 25)).heap.size = w.heap.size + 1 := by simp
  have hn1 := World.alloc_heap_new w (.cells #[.slice A1 nf c1, .slice A2 len c2] 25)
  have hn2 := World.alloc_heap_new (w.alloc (.cells #[.slice A1 nf c1, .slice A2 len c2] 25)) (.cells #[.slice none 0 0, .slice none 0 0] 25)
  rw [hsz1] at hn2
  have hn1 := (hE2.block _ (by omega)).trans hn1
  have hB0 := hE1.trans (hE2.mono hE1.size)
  have hs0 : w.heap.size + 2 ≤ ((w.alloc (.cells #[.slice A1 nf c1, .slice A2 len c2] 25)).alloc (.cells #[.slice none 0 0, .slice none 0 0] 25)).heap.size := by simp
  clear hE1 hE2 hsz1
  have HB0 := Lib.hid hB0
  have HX := Lib.hid (fun Y (h : Below ((w.alloc (.cells #[.slice A1 nf c1, .slice A2 len c2] 25)).alloc (.cells #[.slice none 0 0, .slice none 0 0] 25)).heap.size ((w.alloc (.cells #[.slice A1 nf c1, .slice A2 len c2] 25)).alloc (.cells #[.slice none 0 0, .slice none 0 0] 25)) Y) => cells_two ((h.block w.heap.size (by omega)).trans hn1))
  have HR := Lib.hid (fun Y (h : Below ((w.alloc (.cells #[.slice A1 nf c1, .slice A2 len c2] 25)).alloc (.cells #[.slice none 0 0, .slice none 0 0] 25)).heap.size ((w.alloc (.cells #[.slice A1 nf c1, .slice A2 len c2] 25)).alloc (.cells #[.slice none 0 0, .slice none 0 0] 25)) Y) => (h.block (w.heap.size + 1) (by omega)).trans hn2)
  have hI0 := OwN.lit ((w.alloc (.cells #[.slice A1 nf c1, .slice A2 len c2] 25)).alloc (.cells #[.slice none 0 0, .slice none 0 0] 25))
  rw [show ((w.alloc (.cells #[.slice A1 nf c1, .slice A2 len c2] 25)).alloc (.cells #[.slice none 0 0, .slice none 0 0] 25)).heap.size = w.heap.size + 1 + 1 from by simp] at hI0
  have HI0 := Lib.hid hI0
  clear hI0
  have HL2 := Lib.hid ((H1.out.step HB0.out).step (below_new (w := ((w.alloc (.cells #[.slice A1 nf c1, .slice A2 len c2] 25)).alloc (.cells #[.slice none 0 0, .slice none 0 0] 25))) (.cells #[] 3)))
  obtain ⟨k0, k1⟩ := HX.out _ HI0.out.bel
  clear hB0 hn1 hn2
  go_enter Try.func85, Try.ntmps85
  go_wp2_with (at_builtin; refine wpList_appN rfl _ _ rfl HI0.out rfl rfl HL2.out (by simp only [List.length_nil]; have := HFl.out; omega) ?_; intro v4 w4 hO4 hg4; rw [List.nil_append] at hO4; obtain ⟨A4, n4, c4, rfl⟩ := own_some hO4.own; have HO4 := Lib.hid hO4; clear hO4 hg4)
  have HLg0 := Lib.hid (LgI.start HO4.out)
  obtain ⟨Wg, hWg⟩ : ∃ W, w4.alloc (.cells #[.slice A4 n4 c4, .slice none 0 0] 25) = W := ⟨_, rfl⟩
  obtain ⟨gb, hgb⟩ : ∃ g, w4.heap.size = g := ⟨_, rfl⟩
  obtain ⟨WS, hWS⟩ : ∃ W, ((w.alloc (.cells #[.slice A1 nf c1, .slice A2 len c2] 25)).alloc (.cells #[.slice none 0 0, .slice none 0 0] 25)) = W := ⟨_, rfl⟩
  rw [hWg, hgb, hWS] at HLg0
  rw [hWS] at HX HR HB0 hs0
  rw [hWg, hgb]
  obtain ⟨fv, hfv⟩ : ∃ f, Value.slice A4 n4 c4 = f := ⟨_, rfl⟩
  rw [hfv] at HLg0
  have HFv := Lib.hid hfv
  clear hWg hgb hWS hfv HO4 HI0 HL2 k0 k1
  go_loopw [4] (fun iv wr => ∃ (i : Nat) (vals : List Value) (vs : Value), iv = .int .i64 (i : Int) ∧ i ≤ len ∧ LgI WS gb b.first (b.chs.take i) vals fv vs wr) (fun iv _ => len - (intOf iv).toNat)
  case atStart => exact ⟨0, [], _, rfl, by omega, by simpa using HLg0.out⟩
  case round =>
    obtain ⟨i, vals, vs, rfl, hil, hL⟩ := hrel
    have HLi := Lib.hid hL
    have HBr := Lib.hid hL.bel
    clear hL
    obtain ⟨k0, k1⟩ := HX.out wr HBr.out
    by_cases hlt : i < len
    · obtain ⟨x, ad, Bf, bf, Bt, bt, hx, rfl, hrd⟩ := ch_reads3 (H2.out.step HB0.out) hlt
      have HRd := Lib.hid hrd
      have HLx := Lib.hid (HS.out.2.2 x (List.mem_of_getElem? hx))
      have HTk := Lib.hid (show b.chs.take (i + 1) = b.chs.take i ++ [x] from by rw [List.take_add_one, hx]; rfl)
      have HLn0 := Lib.hid (show (b.chs.take i).length ≤ 1000 from by rw [List.length_take]; have := HLn.out; omega)
      have hi1 : (i : Int) < (len : Int) := by omega
      obtain ⟨⟨d0, d1, d2⟩, _⟩ := hrd wr HBr.out
      obtain ⟨xf, hxf⟩ : ∃ n, x.fr.length = n := ⟨_, rfl⟩
      obtain ⟨xt, hxt⟩ : ∃ n, x.to.length = n := ⟨_, rfl⟩
      rw [hxf] at d1 HRd
      rw [hxt] at d2 HRd
      clear hrd hx hxf hxt
      go_wp2_with fail
      obtain ⟨V, hV⟩ : ∃ V, wr.alloc (.cells #[.int .i64 x.yr, .slice Bf xf bf, .slice Bt xt bt] 52) = V := ⟨_, rfl⟩
      have hE := below_new (w := wr) (.cells #[.int .i64 x.yr, .slice Bf xf bf, .slice Bt xt bt] 52)
      have HNx := Lib.hid (fun Y (h : Below (wr.alloc (.cells #[.int .i64 x.yr, .slice Bf xf bf, .slice Bt xt bt] 52)).heap.size (wr.alloc (.cells #[.int .i64 x.yr, .slice Bf xf bf, .slice Bt xt bt] 52)) Y) => new3 (w := wr) (Y := Y) h)
      rw [hV] at hE HNx ⊢
      have HLv := Lib.hid (HLi.out.step hE)
      have HRx := Lib.hid (fun Y (h : Below V.heap.size V Y) => (HRd.out Y (HBr.out.trans (((hE.trans (h.mono hE.size))).mono HBr.out.size))).2)
      clear hE hV d0 d1 d2 HRd k0 k1
      refine wp_opaque ?_
      intro t0 ht0
      have hsz0 : t0.size = 40 := by rw [ht0]; rfl
      have t3 : t0.getD 3 undef = .pointer (some ⟨gb, 0, none⟩) := by rw [ht0]; rfl
      have t5 : t0.getD 5 undef = .pointer (some ⟨wr.heap.size, 0, none⟩) := by rw [ht0]; rfl
      have HT0 := Lib.hid ht0
      clear ht0
      refine wp_region_vals [some 23, some 24, some 25, some 26, some 27, some 28, some 29, some 30, some 31, some 32, some 33, some 34, some 35, some 36, some 37, some 38, none] (CqI V.drew x (fun u X => ∃ vals', LgI WS gb b.first (b.chs.take i ++ [x]) vals' fv u (X.setCell ⟨gb, 1, none⟩ u) ∧ X.cell? ⟨gb, 1, none⟩ = some vs ∧ X.frozen? ⟨gb, 1, none⟩ = false ∧ ∃ A n c, u = .slice A n c) (fun X => ∃ vals' vs', LgI WS gb b.first (b.chs.take i ++ [x]) vals' fv vs' X) (.pointer (some ⟨gb, 1, none⟩)) vs (.pointer (some ⟨wr.heap.size, 0, none⟩)) (.pointer (some ⟨wr.heap.size, 1, none⟩)) (.slice Bf xf bf) (.pointer (some ⟨wr.heap.size, 2, none⟩)) (.slice Bt xt bt)) (by kernel_rfl) (by kernel_rfl) rfl rfl (by simp [hsz0]) (by kernel_rfl) ?_ ?_ ?_
      · intro val
        exact ⟨(fun h => nomatch h), (fun h => nomatch h), (fun h => nomatch h), (fun h => nomatch h), (fun h => nomatch h), (fun h => nomatch h), (fun h => nomatch h), (fun h => nomatch h), (fun h => nomatch h), fun _ => Below.refl _ _, (fun h => nomatch h), (fun h => nomatch h), (fun h => nomatch h), (fun h => nomatch h), (fun h => nomatch h), (fun h => nomatch h), (fun h => nomatch h), (fun h => nomatch h), (fun h => nomatch h), (fun h => nomatch h), (fun h => nomatch h)⟩
      · intro dn q o hi hd hp hc val X a ha hn hI K hK
        have hq : q < 17 := by
          have := (Array.getElem?_eq_some_iff.1 hi).1
          simpa using this
        have c1 : dn 1 = true → dn 0 = true := fun h => hc 1 _ rfl h ⟨0, .data⟩ (by simp) rfl
        have c3 : dn 3 = true → dn 2 = true := fun h => hc 3 _ rfl h ⟨2, .data⟩ (by simp) rfl
        have c6 : dn 6 = true → dn 5 = true := fun h => hc 6 _ rfl h ⟨5, .data⟩ (by simp) rfl
        have c7 : dn 7 = true → dn 4 = true ∧ dn 6 = true := fun h => ⟨hc 7 _ rfl h ⟨4, .data⟩ (by simp) rfl, hc 7 _ rfl h ⟨6, .data⟩ (by simp) rfl⟩
        have c10 : dn 10 = true → dn 9 = true := fun h => hc 10 _ rfl h ⟨9, .data⟩ (by simp) rfl
        have c11 : dn 11 = true → dn 8 = true ∧ dn 10 = true := fun h => ⟨hc 11 _ rfl h ⟨8, .data⟩ (by simp) rfl, hc 11 _ rfl h ⟨10, .data⟩ (by simp) rfl⟩
        have c12 : dn 12 = true → dn 3 = true ∧ dn 7 = true ∧ dn 11 = true := fun h => ⟨hc 12 _ rfl h ⟨3, .data⟩ (by simp) rfl, hc 12 _ rfl h ⟨7, .data⟩ (by simp) rfl, hc 12 _ rfl h ⟨11, .data⟩ (by simp) rfl⟩
        have c13 : dn 13 = true → dn 12 = true := fun h => hc 13 _ rfl h ⟨12, .data⟩ (by simp) rfl
        have c14 : dn 14 = true → dn 1 = true ∧ dn 13 = true := fun h => ⟨hc 14 _ rfl h ⟨1, .data⟩ (by simp) rfl, hc 14 _ rfl h ⟨13, .data⟩ (by simp) rfl⟩
        have c16 : dn 16 = true → dn 14 = true := fun h => hc 16 _ rfl h ⟨14, .data⟩ (by simp) rfl
        have bf : ∀ {q : Bool}, (q = true → False) → q = false := fun {q} h => by cases q; rfl; exact (h rfl).elim
        have hBd : dn 14 = false → Below V.heap.size V X := fun n => (Below.refl V.heap.size V).drew.trans (hI.bel n)
        have j7 : dn 14 = true → dn 7 = true := fun h => (c12 (c13 (c14 h).2)).2.1
        have j11 : dn 14 = true → dn 11 = true := fun h => (c12 (c13 (c14 h).2)).2.2
        rcases (show q = 0 ∨ q = 1 ∨ q = 2 ∨ q = 3 ∨ q = 4 ∨ q = 5 ∨ q = 6 ∨ q = 7 ∨ q = 8 ∨ q = 9 ∨ q = 10 ∨ q = 11 ∨ q = 12 ∨ q = 13 ∨ q = 14 ∨ q = 15 ∨ q = 16 by omega) with rfl | rfl | rfl | rfl | rfl | rfl | rfl | rfl | rfl | rfl | rfl | rfl | rfl | rfl | rfl | rfl | rfl
        · obtain rfl := Option.some.inj hi
          exact opField1 3 gb rfl ((ha 3).trans t3) (hK _ _ hI.op0)
        · obtain rfl := Option.some.inj hi
          have y0 := hp ⟨0, .data⟩ (by simp) rfl
          have n14 : dn 14 = false := bf fun h => f_t hd (c14 h).1
          exact opLdCs 23 _ _ rfl ((ha 23).trans (hI.s0 y0)) (HLv.out.step (hBd n14)).cells.2 (hK _ _ hI.op1)
        · obtain rfl := Option.some.inj hi
          exact opFieldC 0 5 _ (by decide) rfl ((ha 5).trans t5) (hK _ _ hI.op2)
        · obtain rfl := Option.some.inj hi
          have y2 := hp ⟨2, .data⟩ (by simp) rfl
          have n14 : dn 14 = false := bf fun h => f_t hd (c12 (c13 (c14 h).2)).1
          exact opLd 25 _ _ rfl ((ha 25).trans (hI.s2 y2)) (HNx.out X (hBd n14)).1 (hK _ _ hI.op3)
        · obtain rfl := Option.some.inj hi
          have n7 : dn 7 = false := bf fun h => f_t hd (c7 h).1
          have n13 : dn 13 = false := bf fun h => f_t n7 (c12 (c13 h)).2.1
          have n14 : dn 14 = false := bf fun h => f_t n7 (j7 h)
          have n16 : dn 16 = false := bf fun h => f_t n14 (c16 h)
          exact opNew rfl (hK _ _ (hI.op4 n7 n13 n14 n16))
        · obtain rfl := Option.some.inj hi
          exact opFieldC 1 5 _ (by decide) rfl ((ha 5).trans t5) (hK _ _ hI.op5)
        · obtain rfl := Option.some.inj hi
          have y5 := hp ⟨5, .data⟩ (by simp) rfl
          have n7 : dn 7 = false := bf fun h => f_t hd (c7 h).2
          have n14 : dn 14 = false := bf fun h => f_t n7 (j7 h)
          exact opLdS 28 _ _ rfl ((ha 28).trans (hI.s5 y5)) (HNx.out X (hBd n14)).2.1 (hK _ _ hI.op6)
        · obtain rfl := Option.some.inj hi
          have y4 := hp ⟨4, .data⟩ (by simp) rfl
          have y6 := hp ⟨6, .data⟩ (by simp) rfl
          have n12 : dn 12 = false := bf fun h => f_t hd (c12 h).2.1
          have n13 : dn 13 = false := bf fun h => f_t n12 (c13 h)
          have n14 : dn 14 = false := bf fun h => f_t hd (j7 h)
          have n16 : dn 16 = false := bf fun h => f_t n14 (c16 h)
          exact run_appN (.tmp 27) (.tmp 29) rfl (hI.e4 y4 hd) (ha 27) ((ha 29).trans (hI.s6 y6)) (HRx.out X (hBd n14)).1 (by have := HLx.out.1; simp only [List.length_nil]; omega) (fun v' w' h1 h2 h3 => hK _ _ (hI.op7 y4 hd n12 n13 n14 n16 (by rw [List.nil_append] at h1; exact h1) h2 h3))
        · obtain rfl := Option.some.inj hi
          have n11 : dn 11 = false := bf fun h => f_t hd (c11 h).1
          have n13 : dn 13 = false := bf fun h => f_t n11 (c12 (c13 h)).2.2
          have n14 : dn 14 = false := bf fun h => f_t n11 (j11 h)
          have n16 : dn 16 = false := bf fun h => f_t n14 (c16 h)
          exact opNew rfl (hK _ _ (hI.op8 n11 n13 n14 n16))
        · obtain rfl := Option.some.inj hi
          exact opFieldC 2 5 _ (by decide) rfl ((ha 5).trans t5) (hK _ _ hI.op9)
        · obtain rfl := Option.some.inj hi
          have y9 := hp ⟨9, .data⟩ (by simp) rfl
          have n11 : dn 11 = false := bf fun h => f_t hd (c11 h).2
          have n14 : dn 14 = false := bf fun h => f_t n11 (j11 h)
          exact opLdS 32 _ _ rfl ((ha 32).trans (hI.s9 y9)) (HNx.out X (hBd n14)).2.2 (hK _ _ hI.op10)
        · obtain rfl := Option.some.inj hi
          have y8 := hp ⟨8, .data⟩ (by simp) rfl
          have y10 := hp ⟨10, .data⟩ (by simp) rfl
          have n12 : dn 12 = false := bf fun h => f_t hd (c12 h).2.2
          have n13 : dn 13 = false := bf fun h => f_t n12 (c13 h)
          have n14 : dn 14 = false := bf fun h => f_t hd (j11 h)
          have n16 : dn 16 = false := bf fun h => f_t n14 (c16 h)
          exact run_appN (.tmp 31) (.tmp 33) rfl (hI.e8 y8 hd) (ha 31) ((ha 33).trans (hI.s10 y10)) (HRx.out X (hBd n14)).2 (by have := HLx.out.2; simp only [List.length_nil]; omega) (fun v' w' h1 h2 h3 => hK _ _ (hI.op11 y8 hd n12 n13 n14 n16 (by rw [List.nil_append] at h1; exact h1) h2 h3))
        · obtain rfl := Option.some.inj hi
          have y3 := hp ⟨3, .data⟩ (by simp) rfl
          have y7 := hp ⟨7, .data⟩ (by simp) rfl
          have y11 := hp ⟨11, .data⟩ (by simp) rfl
          have n14 : dn 14 = false := bf fun h => f_t hd (c13 (c14 h).2)
          obtain ⟨A5, d5, e5, _⟩ := (hI.e7 y7 n14).sl.form
          obtain ⟨A6, d6, e6, _⟩ := (hI.e11 y11 n14).sl.form
          have hK2 := hK _ _ hI.op12
          rw [e5, e6] at hK2
          exact opBuildC 26 30 34 _ _ _ _ _ _ _ rfl ((ha 26).trans (hI.s3 y3)) ((ha 30).trans e5) ((ha 34).trans e6) hK2
        · obtain rfl := Option.some.inj hi
          have y12 := hp ⟨12, .data⟩ (by simp) rfl
          obtain ⟨y3, y7, y11⟩ := c12 y12
          have n14 : dn 14 = false := bf fun h => f_t hd (c14 h).2
          have n16 : dn 16 = false := bf fun h => f_t n14 (c16 h)
          have h1 := (hI.e7 y7 n14).fr
          have h2 := (hI.e11 y11 n14).fr
          obtain ⟨A5, d5, e5, _⟩ := h1.1.form
          obtain ⟨A6, d6, e6, _⟩ := h2.1.form
          have e12 := hI.e12 y12
          rw [e5] at h1
          rw [e6] at h2
          rw [e5, e6] at e12
          exact opBoxC 35 _ _ _ _ _ _ _ rfl ((ha 35).trans e12) (hK _ _ (hI.op13 n14 n16 (below_new _) ⟨_, _, _, rfl, World.alloc_heap_new X _, h1.step (below_new _), h2.step (below_new _)⟩))
        · obtain rfl := Option.some.inj hi
          have y1 := hp ⟨1, .data⟩ (by simp) rfl
          have y13 := hp ⟨13, .data⟩ (by simp) rfl
          obtain ⟨_, y7, y11⟩ := c12 (c13 y13)
          have n16 : dn 16 = false := bf fun h => f_t hd (c16 h)
          obtain ⟨g, rf, rt, e4, h1, h2, h3⟩ := hI.e13 y13 hd
          have hL := HLv.out.step (hBd hd)
          exact run_append_ch (.tmp 24) (.tmp 36) rfl ((ha 24).trans (hI.s1 y1)) hL.own hL.bel.size g ((ha 36).trans e4) h1 h2.one h3.one (by have := HLn0.out; omega) (fun v' w' g1 g2 g3 => hK _ _ (hI.op14 y7 y11 n16 (by
            have h4 := hL.push (x := x) (V := V.drew) HLv.out.lt (fun g e => (HLv.out.own.lt g e).2) h2 h3 g1 g2 g3
            exact ⟨_, h4.1, h4.2.1, h4.2.2, own_some g1⟩)))
        · obtain rfl := Option.some.inj hi
          exact opField1 3 gb rfl ((ha 3).trans t3) (hK _ _ hI.op15)
        · obtain rfl := Option.some.inj hi
          have y14 := hp ⟨14, .data⟩ (by simp) rfl
          have y15 := hp ⟨15, .data⟩ (by simp) rfl
          obtain ⟨vals', h1, h2, h3, h4⟩ := hI.e14 y14 hd
          exact opStoreCs 38 37 ⟨gb, 1, none⟩ (val 14) vs rfl ((ha 38).trans (hI.s15 y15)) (ha 37) h4 h2 h3 (fun u => hK u _ (hI.op16 (j7 y14) (j11 y14) y14 (u := u) ⟨_, _, h1⟩))
      · intro dn val X hdn hI
        obtain ⟨vals', vs', hL'⟩ := hI.e16 (hdn 16 (by simp))
        have HLg2 := Lib.hid hL'
        clear hdn hI hL'
        simp only [wrS, HT0.out]
        simp only [List.setIfInBounds_toArray, List.set_cons_succ, List.set_cons_zero]
        clear t3 t5 hsz0 HT0
        go_wp2_with fail
        go_roundw
        case rel => exact ⟨i + 1, _, _, by go_num, by omega, by rw [HTk.out]; exact HLg2.out⟩
        case measure => simp [intOf]; omega
    · have hi1 : ¬ (i : Int) < (len : Int) := by omega
      have hi : i = len := by omega
      subst hi
      have HLg1 := Lib.hid (show LgI WS gb b.first b.chs vals fv vs wr from by have h := HLi.out; rw [List.take_of_length_le (by have := HLn.out; omega)] at h; exact h)
      have HBf := Lib.hid (HB0.out.trans (HBr.out.mono HB0.out.size))
      obtain ⟨q0, q1⟩ := HLg1.out.cells
      obtain ⟨r0, r1⟩ := cells_two (HR.out wr HBr.out)
      have f0 := frozen_cells (HR.out wr HBr.out) 0
      have f1 := frozen_cells (HR.out wr HBr.out) 1
      obtain rfl := HFv.out
      obtain ⟨Ax, mx, cx, rfl⟩ := own_some HLg1.out.own
      have HBk := Lib.hid (HLg1.out.bk_q (q := w.heap.size + 1) (by omega) (set2_grown _ _ (.slice A4 n4 c4) (.slice Ax mx cx)))
      have HBk2 := Lib.hid (fun q Y (hq : q < w.heap.size) hg => HLg1.out.bk_q2 (Z := Y) (q := w.heap.size + 1) (q2 := q) (by omega) (by omega) (set2_grown _ _ (.slice A4 n4 c4) (.slice Ax mx cx)) hg)
      clear HLi HLg0 HLg1
      go_wp2_with fail
      (try rw [Exit.noGoto_ret])
      exact bodyPost_ret (v := .agg #[.slice A4 n4 c4, .slice Ax mx cx]) (by simp [results, Try.results85, go_sem, r0, r1]) rfl ⟨_, rfl, ⟨_, HBk.out, fun q Y hq hg => HBk2.out q Y hq hg⟩, (HBf.out.setCell (by first | omega | simp) _).setCell (by first | omega | simp) _⟩
end Go.Proofs.Ytplpogonkfnafaa
