
/- The drawn region in which the reference's fates grow. -/
import Derived.Test.YtplpogonkfnafaaGreatNmFs
namespace Go.Proofs.YtplpogonkfnafaaGreat
open Go.RowKit Go.Nm

structure FtI (V : World) (g : List Int) (y : Int) (R : Value → World → Prop) (mv so iv p4 sg sl kv p9 yv : Value) (dn : Nat → Bool) (val : Nat → Value) (X : World) : Prop where
  s0 : dn 0 = true → val 0 = mv
  s2 : dn 2 = true → val 2 = so
  s3 : dn 3 = true → val 3 = iv
  s4 : dn 4 = true → val 4 = p4
  s5 : dn 5 = true → val 5 = sg
  s7 : dn 7 = true → val 7 = sl
  s8 : dn 8 = true → val 8 = kv
  s9 : dn 9 = true → val 9 = p9
  s10 : dn 10 = true → val 10 = yv
  bel : dn 14 = false → Below V.heap.size V X
  e1 : dn 1 = true → dn 6 = false → OwN V (val 1) [] X
  e6 : dn 6 = true → dn 12 = false → OwN V (val 6) g X
  e11 : dn 11 = true → dn 12 = false → ∃ gb, val 11 = .slice (some ⟨gb, 0, none⟩) 1 1 ∧ X.heap[gb]? = some (.cells #[.int .i64 y] 3) ∧ (dn 1 = true → dn 6 = false → (val 1).ownBlock ≠ some gb) ∧ (dn 6 = true → (val 6).ownBlock ≠ some gb)
  e12 : dn 12 = true → dn 14 = false → OwN V (val 12) (g ++ [y]) X
  e13 : dn 13 = true → dn 14 = false → ∃ gs, val 13 = .slice (some ⟨gs, 0, none⟩) 1 1 ∧ X.heap[gs]? = some (.cells #[val 12] 22)
  e14 : dn 14 = true → R (val 14) X
  e15 : dn 15 = true → val 15 = val 14
theorem box_sl {X : World} {gb : Nat} {y : Int} (h : X.heap[gb]? = some (.cells #[.int .i64 y] 3)) : InSl X X.heap.size (.slice (some ⟨gb, 0, none⟩) 1 1) [y] :=
  ⟨some ⟨gb, 0, none⟩, 1, rfl, Nat.le_refl _, by unfold maxLen; omega, fun i z hz => by
    have hi : i = 0 := by have := (List.getElem?_eq_some_iff.1 hz).1; simp at this; omega
    subst hi
    simp at hz; subst hz
    exact ⟨_, rfl, (Array.getElem?_eq_some_iff.1 h).1, by simp [World.cell?, h, Addr.add]⟩⟩
theorem f_t {b : Bool} {p : Prop} (h : b = false) (h2 : b = true) : p := by rw [h] at h2; cases h2
section
variable {V : World} {g : List Int} {y : Int} {R : Value → World → Prop} {mv so iv p4 sg sl kv p9 yv : Value} {dn : Nat → Bool} {val : Nat → Value} {X Y : World}
theorem FtI.op0 (h : FtI V g y R mv so iv p4 sg sl kv p9 yv dn val X) : FtI V g y R mv so iv p4 sg sl kv p9 yv (andB dn 0) (updV val 0 (mv)) X :=
  ⟨(fun _ => rfl), h.s2, h.s3, h.s4, h.s5, h.s7, h.s8, h.s9, h.s10, h.bel, h.e1, h.e6, h.e11, h.e12, h.e13, h.e14, h.e15⟩
theorem FtI.op2 (h : FtI V g y R mv so iv p4 sg sl kv p9 yv dn val X) : FtI V g y R mv so iv p4 sg sl kv p9 yv (andB dn 2) (updV val 2 (so)) X :=
  ⟨h.s0, (fun _ => rfl), h.s3, h.s4, h.s5, h.s7, h.s8, h.s9, h.s10, h.bel, h.e1, h.e6, h.e11, h.e12, h.e13, h.e14, h.e15⟩
theorem FtI.op3 (h : FtI V g y R mv so iv p4 sg sl kv p9 yv dn val X) : FtI V g y R mv so iv p4 sg sl kv p9 yv (andB dn 3) (updV val 3 (iv)) X :=
  ⟨h.s0, h.s2, (fun _ => rfl), h.s4, h.s5, h.s7, h.s8, h.s9, h.s10, h.bel, h.e1, h.e6, h.e11, h.e12, h.e13, h.e14, h.e15⟩
theorem FtI.op4 (h : FtI V g y R mv so iv p4 sg sl kv p9 yv dn val X) : FtI V g y R mv so iv p4 sg sl kv p9 yv (andB dn 4) (updV val 4 (p4)) X :=
  ⟨h.s0, h.s2, h.s3, (fun _ => rfl), h.s5, h.s7, h.s8, h.s9, h.s10, h.bel, h.e1, h.e6, h.e11, h.e12, h.e13, h.e14, h.e15⟩
theorem FtI.op5 (h : FtI V g y R mv so iv p4 sg sl kv p9 yv dn val X) : FtI V g y R mv so iv p4 sg sl kv p9 yv (andB dn 5) (updV val 5 (sg)) X :=
  ⟨h.s0, h.s2, h.s3, h.s4, (fun _ => rfl), h.s7, h.s8, h.s9, h.s10, h.bel, h.e1, h.e6, h.e11, h.e12, h.e13, h.e14, h.e15⟩
theorem FtI.op7 (h : FtI V g y R mv so iv p4 sg sl kv p9 yv dn val X) : FtI V g y R mv so iv p4 sg sl kv p9 yv (andB dn 7) (updV val 7 (sl)) X :=
  ⟨h.s0, h.s2, h.s3, h.s4, h.s5, (fun _ => rfl), h.s8, h.s9, h.s10, h.bel, h.e1, h.e6, h.e11, h.e12, h.e13, h.e14, h.e15⟩
theorem FtI.op8 (h : FtI V g y R mv so iv p4 sg sl kv p9 yv dn val X) : FtI V g y R mv so iv p4 sg sl kv p9 yv (andB dn 8) (updV val 8 (kv)) X :=
  ⟨h.s0, h.s2, h.s3, h.s4, h.s5, h.s7, (fun _ => rfl), h.s9, h.s10, h.bel, h.e1, h.e6, h.e11, h.e12, h.e13, h.e14, h.e15⟩
theorem FtI.op9 (h : FtI V g y R mv so iv p4 sg sl kv p9 yv dn val X) : FtI V g y R mv so iv p4 sg sl kv p9 yv (andB dn 9) (updV val 9 (p9)) X :=
  ⟨h.s0, h.s2, h.s3, h.s4, h.s5, h.s7, h.s8, (fun _ => rfl), h.s10, h.bel, h.e1, h.e6, h.e11, h.e12, h.e13, h.e14, h.e15⟩
theorem FtI.op10 (h : FtI V g y R mv so iv p4 sg sl kv p9 yv dn val X) : FtI V g y R mv so iv p4 sg sl kv p9 yv (andB dn 10) (updV val 10 (yv)) X :=
  ⟨h.s0, h.s2, h.s3, h.s4, h.s5, h.s7, h.s8, h.s9, (fun _ => rfl), h.bel, h.e1, h.e6, h.e11, h.e12, h.e13, h.e14, h.e15⟩
theorem FtI.op1 (h : FtI V g y R mv so iv p4 sg sl kv p9 yv dn val X) (n6 : dn 6 = false) (n12 : dn 12 = false) (n13 : dn 13 = false) (n14 : dn 14 = false) (n15 : dn 15 = false) : FtI V g y R mv so iv p4 sg sl kv p9 yv (andB dn 1) (updV val 1 (.slice (some ⟨X.heap.size, 0, none⟩) 0 0)) (X.alloc (.cells #[] 3)) :=
  ⟨h.s0, h.s2, h.s3, h.s4, h.s5, h.s7, h.s8, h.s9, h.s10, (fun _ => (h.bel n14).trans ((below_new _).mono (h.bel n14).size)), (fun _ _ => ⟨(h.bel n14).trans ((below_new _).mono (h.bel n14).size), World.ownsRow_lit (size := 1) X #[] 0 (h.bel n14).size (by unfold maxLen; omega) rfl⟩), (fun d => f_t n6 d), (fun d n => by obtain ⟨gb, h1, h2, _, _⟩ := h.e11 d n; exact ⟨gb, h1, ((below_new _).block _ (Array.getElem?_eq_some_iff.1 h2).1).trans h2, fun _ _ e => (by have := (Array.getElem?_eq_some_iff.1 h2).1; have e2 : X.heap.size = gb := (by injection e); omega), fun d => f_t n6 d⟩), (fun d => f_t n12 d), (fun d => f_t n13 d), (fun d => f_t n14 d), (fun d => f_t n15 d)⟩
theorem FtI.op6 (h : FtI V g y R mv so iv p4 sg sl kv p9 yv dn val X) (y1 : dn 1 = true) (n6 : dn 6 = false) (n12 : dn 12 = false) (n13 : dn 13 = false) (n14 : dn 14 = false) (n15 : dn 15 = false) {u : Value} (hO : OwN V u g Y) (hg : X.grownBy Y (val 1).ownBlock) (hob : u.ownBlock = (val 1).ownBlock ∨ u.ownBlock = some X.heap.size) : FtI V g y R mv so iv p4 sg sl kv p9 yv (andB dn 6) (updV val 6 (u)) Y :=
  ⟨h.s0, h.s2, h.s3, h.s4, h.s5, h.s7, h.s8, h.s9, h.s10, (fun _ => hO.bel), (fun _ n => nomatch n), (fun _ _ => hO), (fun d n => by obtain ⟨gb, h1, h2, h3, _⟩ := h.e11 d n; exact ⟨gb, h1, (hg.block _ (Array.getElem?_eq_some_iff.1 h2).1 (fun e => h3 y1 n6 e.symm)).trans h2, (fun _ n => nomatch n), fun _ e => (by have := (Array.getElem?_eq_some_iff.1 h2).1; rcases hob with e2 | e2; exact h3 y1 n6 (e2.symm.trans e); have e3 := e2.symm.trans e; injection e3 with e3; omega)⟩), (fun d => f_t n12 d), (fun d => f_t n13 d), (fun d => f_t n14 d), (fun d => f_t n15 d)⟩
theorem FtI.op11 (h : FtI V g y R mv so iv p4 sg sl kv p9 yv dn val X) (n12 : dn 12 = false) (n13 : dn 13 = false) (n14 : dn 14 = false) (n15 : dn 15 = false) : FtI V g y R mv so iv p4 sg sl kv p9 yv (andB dn 11) (updV val 11 (.slice (some ⟨X.heap.size, 0, none⟩) 1 1)) (X.alloc (.cells #[.int .i64 y] 3)) :=
  ⟨h.s0, h.s2, h.s3, h.s4, h.s5, h.s7, h.s8, h.s9, h.s10, (fun _ => (h.bel n14).trans ((below_new _).mono (h.bel n14).size)), (fun d n => (h.e1 d n).step (below_new _)), (fun d n => (h.e6 d n).step (below_new _)), (fun _ _ => ⟨X.heap.size, rfl, World.alloc_heap_new X _, fun d n e => (by have := ((h.e1 d n).own.lt _ e).2; omega), fun d e => (by have := ((h.e6 d n12).own.lt _ e).2; omega)⟩), (fun d => f_t n12 d), (fun d => f_t n13 d), (fun d => f_t n14 d), (fun d => f_t n15 d)⟩
theorem FtI.op12 (h : FtI V g y R mv so iv p4 sg sl kv p9 yv dn val X) (y6 : dn 6 = true) (n13 : dn 13 = false) (n14 : dn 14 = false) (n15 : dn 15 = false) {u : Value} (hO : OwN V u (g ++ [y]) Y) : FtI V g y R mv so iv p4 sg sl kv p9 yv (andB dn 12) (updV val 12 (u)) Y :=
  ⟨h.s0, h.s2, h.s3, h.s4, h.s5, h.s7, h.s8, h.s9, h.s10, (fun _ => hO.bel), (fun _ n => f_t n y6), (fun _ n => nomatch n), (fun _ n => nomatch n), (fun _ _ => hO), (fun d => f_t n13 d), (fun d => f_t n14 d), (fun d => f_t n15 d)⟩
theorem FtI.op13 (h : FtI V g y R mv so iv p4 sg sl kv p9 yv dn val X) (y6 : dn 6 = true) (y12 : dn 12 = true) (n14 : dn 14 = false) (n15 : dn 15 = false) : FtI V g y R mv so iv p4 sg sl kv p9 yv (andB dn 13) (updV val 13 (.slice (some ⟨X.heap.size, 0, none⟩) 1 1)) (X.alloc (.cells #[val 12] 22)) :=
  ⟨h.s0, h.s2, h.s3, h.s4, h.s5, h.s7, h.s8, h.s9, h.s10, (fun _ => (h.bel n14).trans ((below_new _).mono (h.bel n14).size)), (fun _ n => f_t n y6), (fun _ n => f_t n y12), (fun _ n => f_t n y12), (fun d n => (h.e12 d n).step (below_new _)), (fun _ _ => ⟨X.heap.size, rfl, World.alloc_heap_new X _⟩), (fun d => f_t n14 d), (fun d => f_t n15 d)⟩
theorem FtI.op14 (h : FtI V g y R mv so iv p4 sg sl kv p9 yv dn val X) (y6 : dn 6 = true) (y12 : dn 12 = true) (n15 : dn 15 = false) {u : Value} (hR : R u Y) : FtI V g y R mv so iv p4 sg sl kv p9 yv (andB dn 14) (updV val 14 (u)) Y :=
  ⟨h.s0, h.s2, h.s3, h.s4, h.s5, h.s7, h.s8, h.s9, h.s10, (fun n => nomatch n), (fun _ n => f_t n y6), (fun _ n => f_t n y12), (fun _ n => f_t n y12), (fun _ n => nomatch n), (fun _ n => nomatch n), (fun _ => hR), (fun d => f_t n15 d)⟩
theorem FtI.op15 (h : FtI V g y R mv so iv p4 sg sl kv p9 yv dn val X) : FtI V g y R mv so iv p4 sg sl kv p9 yv (andB dn 15) (updV val 15 (val 14)) X :=
  ⟨h.s0, h.s2, h.s3, h.s4, h.s5, h.s7, h.s8, h.s9, h.s10, h.bel, h.e1, h.e6, h.e11, h.e12, h.e13, h.e14, (fun _ => rfl)⟩
end
end Go.Proofs.YtplpogonkfnafaaGreat
