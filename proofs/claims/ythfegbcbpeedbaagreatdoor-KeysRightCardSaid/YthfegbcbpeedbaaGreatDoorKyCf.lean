
/- A map of the call's own whose elements are lists of lists. -/
import Derived.Test.YthfegbcbpeedbaaGreatDoorKyUn
import Derived.Test.YthfegbcbpeedbaaGreatDoorKyOj
namespace Go.Proofs.YthfegbcbpeedbaaGreatDoor
open Go.RowKit Go.Nm Go.Ky Go.Maps

/-- how an element is told: by where it lies -/
def encG : Value → DataW Unit
  | .slice (some a) n c => .agg [.lit (.int .i64 (a.block : Int)), .lit (.int .i64 (a.off : Int)), .lit (.int .i64 (n : Int)), .lit (.int .i64 (c : Int))]
  | _ => .nil
def rdG : Value → Option (DataW Unit × List MemPlace)
  | .slice (some ⟨g, o, none⟩) n c => some (encG (.slice (some ⟨g, o, none⟩) n c), [])
  | .slice none 0 0 => some (encG (.slice none 0 0), [])
  | _ => none
/-- a slice of the kind that is told -/
def TellS (v : Value) : Prop := v = .slice none 0 0 ∨ ∃ g o n c, v = .slice (some ⟨g, o, none⟩) n c
theorem rdG_of {v : Value} (h : TellS v) : rdG v = some (encG v, []) := by
  rcases h with rfl | ⟨g, o, n, c, rfl⟩ <;> rfl
theorem rdG_tell {v : Value} {z : DataW Unit × List MemPlace} (h : rdG v = some z) : TellS v ∧ z.1 = encG v := by
  unfold rdG at h
  split at h
  · rename_i g o n c
    injection h with h; subst h
    exact ⟨.inr ⟨g, o, n, c, rfl⟩, rfl⟩
  · injection h with h; subst h
    exact ⟨.inl rfl, rfl⟩
  · cases h
theorem enc_inj {u v : Value} (hu : TellS u) (hv : TellS v) (h : encG u = encG v) : u = v := by
  rcases hu with rfl | ⟨g, o, n, c, rfl⟩ <;> rcases hv with rfl | ⟨g', o', n', c', rfl⟩
  · rfl
  · cases h
  · cases h
  · unfold encG at h
    simp only [DataW.agg.injEq, List.cons.injEq, DataW.lit.injEq, Lit.int.injEq, true_and, and_true] at h
    obtain ⟨h1, h2, h3, h4⟩ := h
    have e1 : g = g' := by omega
    have e2 : o = o' := by omega
    have e3 : n = n' := by omega
    have e4 : c = c' := by omega
    subst e1 e2 e3 e4
    rfl
theorem zeroSS (w : World) : (zeroValue 27).run Tryz.prog w = .ok (.slice none 0 0) w := by kernel_rfl
/-- the map in block mb has the lists G, at the keys ks -/
structure GM (W : World) (mb n : Nat) (G : Int → List (List Int)) (ks : Int → Prop) (V : Int → Value) (X : World) : Prop where
  bel : Below W.heap.size W X
  new : W.heap.size ≤ mb
  map : ∃ D : DataW Unit, X.ownsMap Tryz.prog 3 rdG mb n D ∧ (∀ k, D.atKey (.int .i64 k) .nil = encG (V k)) ∧ ∀ k, has D (.int .i64 k) = true ↔ ks k
  tell : ∀ k, TellS (V k)
  ele : ∀ k, ∃ vals, LvI W (G k) vals (V k) X
  sep : ∀ k g, (V k).ownBlock = some g → g ≠ mb ∧ ∀ k', k' ≠ k → (V k').ownBlock ≠ some g
section
variable {W X Y : World} {mb n : Nat} {G : Int → List (List Int)} {ks : Int → Prop} {V : Int → Value}
theorem GM.lt (h : GM W mb n G ks V X) : mb < X.heap.size := by
  obtain ⟨D, h1, _⟩ := h.map; exact h1.lt
theorem GM.made (W X : World) (hb : Below W.heap.size W X) : GM W X.heap.size 0 (fun _ => []) (fun _ => False) (fun _ => .slice none 0 0) (X.alloc (.map #[] 0)) :=
  ⟨hb.alloc hb.size _, hb.size, ⟨.map [], World.ownsMap_made _ _ _ _, fun _ => rfl, fun _ => by simp [has]⟩, fun _ => .inl rfl, fun _ => ⟨[], LvI.start W _ (hb.alloc hb.size _)⟩, fun k g e => by cases e⟩
theorem GM.step (h : GM W mb n G ks V X) (hb : Below X.heap.size X Y) : GM W mb n G ks V Y := by
  obtain ⟨D, h1, h2⟩ := h.map
  exact ⟨h.bel.trans (hb.mono h.bel.size), h.new, ⟨D, h1.kept (grown_of_below hb none) (by simp), h2⟩, h.tell, fun k => by obtain ⟨vals, hv⟩ := h.ele k; exact ⟨vals, hv.step hb⟩, h.sep⟩
theorem GM.as {ks' : Int → Prop} (h : GM W mb n G ks V X) (e : ∀ k, ks k ↔ ks' k) : GM W mb n G ks' V X := by
  obtain ⟨D, h1, h2, h3⟩ := h.map
  exact ⟨h.bel, h.new, ⟨D, h1, h2, fun k => (h3 k).trans (e k)⟩, h.tell, h.ele, h.sep⟩
/-- what is looked up -/
theorem GM.look (h : GM W mb n G ks V X) (z : Int) (hz : (Lit.int .i64 z).wf = true) : (Instr.lookup 67 (.map (some mb)) (.int .i64 z) false).run Tryz.prog X = .ok (V z) X := by
  obtain ⟨D, h1, h2, _⟩ := h.map
  obtain ⟨v, ps, hrun, hv⟩ := h1.lookup keyI Tryz.underlying67 (zeroSS X) (zd := .nil) (zp := []) rfl (keyOf_int_mk Tryz.underlying3 hz)
  rw [h2] at hv
  obtain ⟨t1, t2⟩ := rdG_tell hv
  rw [hrun, enc_inj (h.tell z) t1 t2]
/-- behind an append at one key -/
structure GA (W : World) (mb n : Nat) (G : Int → List (List Int)) (ks : Int → Prop) (V : Int → Value) (z : Int) (R : List Int) (v : Value) (X : World) : Prop where
  bel : Below W.heap.size W X
  new : W.heap.size ≤ mb
  map : ∃ D : DataW Unit, X.ownsMap Tryz.prog 3 rdG mb n D ∧ (∀ k, D.atKey (.int .i64 k) .nil = encG (V k)) ∧ ∀ k, has D (.int .i64 k) = true ↔ ks k
  tell : ∀ k, TellS (V k)
  tellv : TellS v
  ele : ∀ k, k ≠ z → ∃ vals, LvI W (G k) vals (V k) X
  elev : ∃ vals, LvI W (G z ++ [R]) vals v X
  sep : ∀ k g, (V k).ownBlock = some g → g ≠ mb ∧ ∀ k', k' ≠ k → (V k').ownBlock ≠ some g
  sepv : ∀ g, v.ownBlock = some g → g ≠ mb ∧ ∀ k', k' ≠ z → (V k').ownBlock ≠ some g
theorem own_tell {t : TypeId} {sz : Nat} {B : Nat} {v : Value} {len : Nat} {xs : List Value} (h : X.ownsRow B t sz v len xs) : TellS v := by
  rcases h.2 with ⟨e, _⟩ | ⟨g, cap, cur, e, _⟩
  · exact .inl e
  · exact .inr ⟨_, _, _, _, e⟩
theorem GM.app (h : GM W mb n G ks V X) {z : Int} {R : List Int} {v : Value} {vals : List Value} (hv : LvI W (G z ++ [R]) vals v Y) (hg : X.grownBy Y (V z).ownBlock) (hl : v.ownBlock = (V z).ownBlock ∨ v.ownBlock = some X.heap.size) : GA W mb n G ks V z R v Y := by
  obtain ⟨D, h1, h2⟩ := h.map
  have hmb : some mb ≠ (V z).ownBlock := fun e => (h.sep z mb e.symm).1 rfl
  have hlt := h.lt
  refine ⟨hv.bel, h.new, ⟨D, h1.kept hg hmb, h2⟩, h.tell, own_tell hv.own, fun k hk => ?_, ⟨vals, hv⟩, h.sep, fun g e => ?_⟩
  · obtain ⟨vs, hvs⟩ := h.ele k
    obtain ⟨vz, hvz⟩ := h.ele z
    exact ⟨vs, hvs.kept hg fun r e => ⟨(hvz.own.lt r e).1, (h.sep z r e).2 k hk⟩⟩
  · rcases hl with e2 | e2
    · rw [e2] at e
      exact h.sep z g e
    · rw [e2] at e
      injection e with e
      subst e
      refine ⟨by omega, fun k' _ e3 => ?_⟩
      obtain ⟨vs, hvs⟩ := h.ele k'
      have := (hvs.own.lt _ e3).2
      omega
/-- the store -/
theorem GA.put {z : Int} {R : List Int} {v : Value} (h : GA W mb n G ks V z R v X) {D : DataW Unit} (hr : X.mapTurned Y mb) (hD : ∀ k, D.atKey (.int .i64 k) .nil = encG (V k)) (hh : ∀ k, has D (.int .i64 k) = true ↔ ks k) (h0 : X.ownsMap Tryz.prog 3 rdG mb n D) (h1 : Y.ownsMap Tryz.prog 3 rdG mb (n + 1) (D.put (.int .i64 z) (encG v))) :
    GM W mb (n + 1) (fun k => if k = z then G z ++ [R] else G k) (fun k => ks k ∨ k = z) (fun k => if k = z then v else V k) Y := by
  have hg := hr.grown
  refine ⟨h.bel.grown hg h.bel.size (fun r e => by cases e; exact h.new), h.new, ⟨_, h1, fun k => ?_, fun k => ?_⟩, fun k => ?_, fun k => ?_, fun k g e => ?_⟩
  · by_cases hk : k = z
    · subst hk; rw [atKey_put_same h0.isMap (isK _), if_pos rfl]
    · rw [atKey_put_other (ne_lit hk), hD, if_neg hk]
  · by_cases hk : k = z
    · subst hk; rw [has_put_same h0.isMap (isK _)]; simp
    · rw [has_put_other (ne_lit hk), hh]; simp [hk]
  · split
    · exact h.tellv
    · exact h.tell k
  · by_cases hk : k = z
    · subst hk
      simp only [if_true]
      obtain ⟨vals, hv⟩ := h.elev
      exact ⟨vals, hv.kept hg fun r e => by cases e; exact ⟨h.new, fun e => (h.sepv _ e).1 rfl⟩⟩
    · simp only [if_neg hk]
      obtain ⟨vals, hv⟩ := h.ele k hk
      exact ⟨vals, hv.kept hg fun r e => by cases e; exact ⟨h.new, fun e => (h.sep k _ e).1 rfl⟩⟩
  · by_cases hk : k = z
    · subst hk
      rw [if_pos rfl] at e
      refine ⟨(h.sepv g e).1, fun k' hk' => ?_⟩
      rw [if_neg hk']
      exact (h.sepv g e).2 k' hk'
    · rw [if_neg hk] at e
      refine ⟨(h.sep k g e).1, fun k' hk' => ?_⟩
      split
      · rename_i ez
        subst ez
        intro e2
        exact (h.sepv g e2).2 k hk e
      · exact (h.sep k g e).2 k' hk'
end
end Go.Proofs.YthfegbcbpeedbaaGreatDoor
