
/- The region that appends to an element of the map. -/
import Derived.Test.YthfegbcbpeedbaaGreatDoorKyCf
namespace Go.Proofs.YthfegbcbpeedbaaGreatDoor
open Go.RowKit Go.Nm Go.Ky Go.Maps

structure CgI (V0 : World) (W : World) (mb n : Nat) (G : Int → List (List Int)) (ks : Int → Prop) (V : Int → Value) (z : Int) (lv sv : Value) (i : Nat) (R : List Int) (dn : Nat → Bool) (val : Nat → Value) (X : World) : Prop where
  s0 : dn 0 = true → val 0 = .map (some mb)
  s1 : dn 1 = true → val 1 = .int .i64 z
  s2 : dn 2 = true → val 2 = .map (some mb)
  s3 : dn 3 = true → val 3 = .int .i64 z
  s4 : dn 4 = true → val 4 = V z
  s5 : dn 5 = true → val 5 = lv
  s6 : dn 6 = true → val 6 = .int .i64 (i : Int)
  s7 : dn 7 = true → val 7 = .int .i64 ((i : Int) + 1)
  s8 : dn 8 = true → val 8 = sv
  bel : dn 10 = false → Below V0.heap.size V0 X
  eB : dn 9 = true → dn 10 = false → ∃ g, val 9 = .slice (some ⟨g, 0, none⟩) 1 1 ∧ X.heap[g]? = some (.cells #[sv] 22)
  eA : dn 10 = true → dn 11 = false → GA W mb n G ks V z R (val 10) X
  eU : dn 11 = true → ∃ v, GM W mb (n + 1) (fun k => if k = z then G z ++ [R] else G k) (fun k => ks k ∨ k = z) (fun k => if k = z then v else V k) X
section
variable {V0 : World} {W : World} {mb n : Nat} {G : Int → List (List Int)} {ks : Int → Prop} {V : Int → Value} {z : Int} {lv sv : Value} {i : Nat} {R : List Int} {dn : Nat → Bool} {val : Nat → Value} {X Y : World}
theorem CgI.op0 (h : CgI V0 W mb n G ks V z lv sv i R dn val X) : CgI V0 W mb n G ks V z lv sv i R (andB dn 0) (updV val 0 (.map (some mb))) X :=
  ⟨(fun _ => rfl), h.s1, h.s2, h.s3, h.s4, h.s5, h.s6, h.s7, h.s8, h.bel, h.eB, h.eA, h.eU⟩
theorem CgI.op1 (h : CgI V0 W mb n G ks V z lv sv i R dn val X) : CgI V0 W mb n G ks V z lv sv i R (andB dn 1) (updV val 1 (.int .i64 z)) X :=
  ⟨h.s0, (fun _ => rfl), h.s2, h.s3, h.s4, h.s5, h.s6, h.s7, h.s8, h.bel, h.eB, h.eA, h.eU⟩
theorem CgI.op2 (h : CgI V0 W mb n G ks V z lv sv i R dn val X) : CgI V0 W mb n G ks V z lv sv i R (andB dn 2) (updV val 2 (.map (some mb))) X :=
  ⟨h.s0, h.s1, (fun _ => rfl), h.s3, h.s4, h.s5, h.s6, h.s7, h.s8, h.bel, h.eB, h.eA, h.eU⟩
theorem CgI.op3 (h : CgI V0 W mb n G ks V z lv sv i R dn val X) : CgI V0 W mb n G ks V z lv sv i R (andB dn 3) (updV val 3 (.int .i64 z)) X :=
  ⟨h.s0, h.s1, h.s2, (fun _ => rfl), h.s4, h.s5, h.s6, h.s7, h.s8, h.bel, h.eB, h.eA, h.eU⟩
theorem CgI.op4 (h : CgI V0 W mb n G ks V z lv sv i R dn val X) : CgI V0 W mb n G ks V z lv sv i R (andB dn 4) (updV val 4 (V z)) X :=
  ⟨h.s0, h.s1, h.s2, h.s3, (fun _ => rfl), h.s5, h.s6, h.s7, h.s8, h.bel, h.eB, h.eA, h.eU⟩
theorem CgI.op5 (h : CgI V0 W mb n G ks V z lv sv i R dn val X) : CgI V0 W mb n G ks V z lv sv i R (andB dn 5) (updV val 5 (lv)) X :=
  ⟨h.s0, h.s1, h.s2, h.s3, h.s4, (fun _ => rfl), h.s6, h.s7, h.s8, h.bel, h.eB, h.eA, h.eU⟩
theorem CgI.op6 (h : CgI V0 W mb n G ks V z lv sv i R dn val X) : CgI V0 W mb n G ks V z lv sv i R (andB dn 6) (updV val 6 (.int .i64 (i : Int))) X :=
  ⟨h.s0, h.s1, h.s2, h.s3, h.s4, h.s5, (fun _ => rfl), h.s7, h.s8, h.bel, h.eB, h.eA, h.eU⟩
theorem CgI.op7 (h : CgI V0 W mb n G ks V z lv sv i R dn val X) : CgI V0 W mb n G ks V z lv sv i R (andB dn 7) (updV val 7 (.int .i64 ((i : Int) + 1))) X :=
  ⟨h.s0, h.s1, h.s2, h.s3, h.s4, h.s5, h.s6, (fun _ => rfl), h.s8, h.bel, h.eB, h.eA, h.eU⟩
theorem CgI.op8 (h : CgI V0 W mb n G ks V z lv sv i R dn val X) : CgI V0 W mb n G ks V z lv sv i R (andB dn 8) (updV val 8 (sv)) X :=
  ⟨h.s0, h.s1, h.s2, h.s3, h.s4, h.s5, h.s6, h.s7, (fun _ => rfl), h.bel, h.eB, h.eA, h.eU⟩
theorem CgI.op9 (h : CgI V0 W mb n G ks V z lv sv i R dn val X) (nA : dn 10 = false) (nU : dn 11 = false) : CgI V0 W mb n G ks V z lv sv i R (andB dn 9) (updV val 9 (.slice (some ⟨X.heap.size, 0, none⟩) 1 1)) (X.alloc (.cells #[sv] 22)) :=
  ⟨h.s0, h.s1, h.s2, h.s3, h.s4, h.s5, h.s6, h.s7, h.s8, (fun n => (h.bel n).alloc (h.bel n).size _), (fun _ _ => ⟨_, rfl, World.alloc_heap_new X _⟩), (fun d => f_t nA d), (fun d => f_t nU d)⟩
theorem CgI.op10 (h : CgI V0 W mb n G ks V z lv sv i R dn val X) (nU : dn 11 = false) {v : Value} (hA : GA W mb n G ks V z R v Y) : CgI V0 W mb n G ks V z lv sv i R (andB dn 10) (updV val 10 v) Y :=
  ⟨h.s0, h.s1, h.s2, h.s3, h.s4, h.s5, h.s6, h.s7, h.s8, (fun n => nomatch n), (fun _ n => nomatch n), (fun _ _ => hA), (fun d => f_t nU d)⟩
theorem CgI.op11 (h : CgI V0 W mb n G ks V z lv sv i R dn val X) (yA : dn 10 = true) {u : Value} (hU : ∃ v, GM W mb (n + 1) (fun k => if k = z then G z ++ [R] else G k) (fun k => ks k ∨ k = z) (fun k => if k = z then v else V k) Y) : CgI V0 W mb n G ks V z lv sv i R (andB dn 11) (updV val 11 u) Y :=
  ⟨h.s0, h.s1, h.s2, h.s3, h.s4, h.s5, h.s6, h.s7, h.s8, (fun n => f_t n yA), (fun _ n => f_t n yA), (fun _ n => nomatch n), (fun _ => hU)⟩
end
section
variable {o : Oper} {a : Act} {w : World} {K : Act → World → Prop} {Q : Exit → Act → World → Prop}
theorem opLookG (q r : Nat) (mb : Nat) (z : Int) (v : Value) (ho : o.op = .lookup 67 (.tmp q) (.tmp r) false) (hq : a.tmps.getD q undef = .map (some mb)) (hr : a.tmps.getD r undef = .int .i64 z)
    (hrun : (Instr.lookup 67 (.map (some mb)) (.int .i64 z) false).run Tryz.prog w = .ok v w) (h : K (a.put o.dst v) w) : o.wp Tryz.prog a w K Q := by
  unfold Oper.wp
  have e1 : a.eval (.tmp q) = .map (some mb) := hq
  have e2 : a.eval (.tmp r) = .int .i64 z := hr
  simp [execOp, ho, e1, e2, hrun, Result.andThen]
  exact h
theorem opAdd1 (q : Nat) (x y : Int) (ho : o.op = .binOp .add 3 (.tmp q) (.const (.int .i64 1)) 3) (hq : a.tmps.getD q undef = .int .i64 x) (hw : IntKind.i64.wrap (x + 1) = y) (h : K (a.put o.dst (.int .i64 y)) w) : o.wp Tryz.prog a w K Q := by
  unfold Oper.wp execOp
  have he : a.eval (.tmp q) = .int .i64 x := hq
  simp only [ho, he]
  go_simp
  (try rw [hw])
  exact h
theorem opSlG (q r n c : Nat) (ad : Addr) (k : Nat) (ho : o.op = .slice 22 (.tmp q) (some (.tmp r)) none none) (hq : a.tmps.getD q undef = .slice (some ad) n c) (hr : a.tmps.getD r undef = .int .i64 (k : Int)) (hk : k ≤ n) (hc : n ≤ c)
    (h : K (a.put o.dst (.slice (if c = k then some ad else some (ad.add k)) (n - k) (c - k))) w) : o.wp Tryz.prog a w K Q := by
  unfold Oper.wp execOp
  have e1 : a.eval (.tmp q) = .slice (some ad) n c := hq
  have e2 : a.eval (.tmp r) = .int .i64 (k : Int) := hr
  simp only [ho, e1]
  have h1 : (0 : Int) ≤ (k : Int) := by omega
  have h2 : (k : Int) ≤ (n : Int) := by omega
  have h3 : (n : Int) ≤ (c : Int) := by omega
  go_simp
  exact h
theorem opPutG (q r s : Nat) {W : World} {mb n : Nat} {G : Int → List (List Int)} {ks : Int → Prop} {V : Int → Value} {z : Int} {R : List Int} {v : Value} (ho : o.op = .mapUpdate 67 (.tmp q) (.tmp r) (.tmp s)) (hq : a.tmps.getD q undef = .map (some mb)) (hr : a.tmps.getD r undef = .int .i64 z) (hs : a.tmps.getD s undef = v)
    (hG : GA W mb n G ks V z R v w) (hn : n < maxLen) (hz : (Lit.int .i64 z).wf = true) (h : ∀ Y, GM W mb (n + 1) (fun k => if k = z then G z ++ [R] else G k) (fun k => ks k ∨ k = z) (fun k => if k = z then v else V k) Y → K (a.put o.dst undef) Y) : o.wp Tryz.prog a w K Q := by
  obtain ⟨D, h1, h2, h3⟩ := hG.map
  obtain ⟨w', hrun, r1, r2⟩ := h1.store keyI Tryz.underlying67 hn (keyOf_int_mk Tryz.underlying3 hz) (rdG_of hG.tellv)
  unfold Oper.wp
  have e1 : a.eval (.tmp q) = .map (some mb) := hq
  have e2 : a.eval (.tmp r) = .int .i64 z := hr
  have e3 : a.eval (.tmp s) = v := hs
  simp [execOp, ho, e1, e2, e3, hrun, Result.andThen]
  exact h _ (hG.put r2 h2 h3 h1 r1)
end
theorem slice_from {W : World} {B q c i : Nat} {ad : Addr} {L : List Int} (h : InSl W B (.slice (some ad) q c) L) (hi : i < q) : InSl W B (.slice (if c = i + 1 then some ad else some (ad.add (i + 1))) (q - (i + 1)) (c - (i + 1))) (L.drop (i + 1)) := by
  have hq : L.length = q := by obtain ⟨_, _, e, _⟩ := h; cases e; rfl
  have hqc : q ≤ c ∧ c ≤ maxLen := by obtain ⟨_, _, e, h1, h2, _⟩ := h; cases e; rw [hq] at h1; exact ⟨h1, h2⟩
  by_cases e : c = i + 1
  · rw [if_pos e]
    have e0 : L.drop (i + 1) = [] := List.drop_eq_nil_of_le (by omega)
    rw [e0]
    refine ⟨some ad, c - (i + 1), ?_, by simp, by unfold maxLen at *; omega, fun k x hk => by simp at hk⟩
    rw [show q - (i + 1) = 0 from by omega]; rfl
  · rw [if_neg e]
    exact h.drop (by omega)
theorem wpList_lookup_g {W : World} {mb n : Nat} {G : Int → List (List Int)} {ks : Int → Prop} {V : Int → Value} {ops : Array Oper} {rest : List Oper} {o : Oper} {a : Act} {Q : Exit → Act → World → Prop} {w : World} (hg : o.guard = none) (m x : Operand) (hop : o.op = Op.lookup 67 m x false) (hM : GM W mb n G ks V w) (hm : a.eval m = .map (some mb)) (z : Int) (hx : a.eval x = .int .i64 z) (hz : (Lit.int .i64 z).wf = true)
    (hK : wpList Tryz.prog ops Q rest (a.put o.dst (V z)) w) : wpList Tryz.prog ops Q (o :: rest) a w := by
  refine wpList_plain hg fun K' hK' => ?_
  have hrun := hM.look z hz
  unfold Oper.wp
  simp [execOp, hop, hm, hx, hrun, Result.andThen]
  exact hK' _ _ hK
/-- an append to a long list of lists -/
theorem wpList_app_sl2 {W : World} {LL : List (List Int)} {vals : List Value} {vs : Value} {ops : Array Oper} {rest : List Oper} {o : Oper} {a : Act} {Q : Exit → Act → World → Prop} {w : World} (hgd : o.guard = none) (s x : Operand) (ho : o.op = .call { callee := .builtin .append, args := #[s, x], argTypes := #[27, 27] })
    {r : Value} {R : List Int} (hs : a.eval s = vs) (h : SlI W LL vals vs w) (g : Nat) (hx : a.eval x = .slice (some ⟨g, 0, none⟩) 1 1) (hc : w.heap[g]? = some (.cells #[r] 22)) (h1 : r.oneCell' = true) (hr : InSl w w.heap.size r R) (hro : ∀ g, r.ownBlock = some g → vs.ownBlock ≠ some g ∧ g < w.heap.size) (hn : LL.length ≤ 10000000000)
    (hK : ∀ v' w', SlI W (LL ++ [R]) (vals ++ [r]) v' w' → w.grownBy w' vs.ownBlock → (v'.ownBlock = vs.ownBlock ∨ v'.ownBlock = some w.heap.size) → wpList Tryz.prog ops Q rest (a.put o.dst v') w') : wpList Tryz.prog ops Q (o :: rest) a w :=
  wpList_plain hgd fun _ hK2 => by
    obtain ⟨i0, hi0, hz0, hz1, hz2⟩ := infoS
    obtain ⟨v', w', hr', h2, h3, _, h5⟩ := run_append_own_at (P := Tryz.prog) (w := w) W.heap.size 27 o.type 22 i0 (.slice none 0 0) 1 24 Tryz.underlying27 hi0 hz0 hz1 hz2 rfl (by decide) vs LL.length vals h.own ⟨g, 0, none⟩ 1 1 [r] rfl
      (fun j u hj => by
        rw [add_zero_k]
        simpa [World.cell?, hc] using hj) (fun u hu => by simp at hu; subst hu; exact h1) (by unfold maxLen; omega) (by omega) h.bel.size
    unfold Oper.wp execOp
    simp only [ho, resolve, invoke, builtin, Sem.run_bind, Sem.run_pure, Result.andThen_ok, List.map_toArray, List.map_cons, List.map_nil, hs, hx, hr']
    exact hK2 _ _ (hK v' w' (h.push h3 h2 h5 hr hro) h3 h5)
end Go.Proofs.YthfegbcbpeedbaaGreatDoor
