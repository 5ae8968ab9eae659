/- Copies of sheets: the program. -/
import Derived.Test.YtijidcigfdblaaaGreatDoorShJ
namespace Go.Proofs.YtijidcigfdblaaaGreatDoor
open Go.RowKit Go.Nm Go.Sh Go.Plc

section
variable {o : Oper} {a : Act} {w : World} {K : Act → World → Prop} {Q : Exit → Act → World → Prop}
set_option maxRecDepth 100000 in
theorem opFieldPg (q g : Nat) (ho : o.op = .fieldAddr 28 (.tmp q) 6) (hq : a.tmps.getD q undef = .pointer (some ⟨g, 0, none⟩)) (h : K (a.put o.dst (.pointer (some ⟨g, 9, none⟩))) w) : o.wp Tryz.prog a w K Q := by
  unfold Oper.wp execOp
  have he : a.eval (.tmp q) = .pointer (some ⟨g, 0, none⟩) := hq
  simp only [ho, he]
  go_simp
  exact h
theorem opLdLs (q : Nat) (ad : Addr) (v : Value) (ho : o.op = .load 26 (.tmp q)) (hq : a.tmps.getD q undef = .pointer (some ad)) (hc : w.cell? ad = some v) (h : K (a.put o.dst v) w) : o.wp Tryz.prog a w K Q := by
  unfold Oper.wp execOp
  have he : a.eval (.tmp q) = .pointer (some ad) := hq
  simp only [ho, he]
  go_simp
  exact h
theorem opLdLn (q g : Nat) (x y z u : Value) (ho : o.op = .load 83 (.tmp q)) (hq : a.tmps.getD q undef = .pointer (some ⟨g, 0, none⟩)) (hg : w.heap[g]? = some (.cells #[x, y, z, u] 83)) (h : K (a.put o.dst (.agg #[x, y, z, u])) w) : o.wp Tryz.prog a w K Q := by
  unfold Oper.wp execOp
  have he : a.eval (.tmp q) = .pointer (some ⟨g, 0, none⟩) := hq
  obtain ⟨c0, c1, c2, c3⟩ := cells_four hg
  simp only [ho, he]
  go_simp
  exact h
theorem opBoxLn (q : Nat) (x y z u : Value) (ho : o.op = .buildSlice 26 1 #[(0, .tmp q)]) (hq : a.tmps.getD q undef = .agg #[x, y, z, u]) (h : K (a.put o.dst (.slice (some ⟨w.heap.size, 0, none⟩) 1 1)) (w.alloc (.cells #[x, y, z, u] 83))) : o.wp Tryz.prog a w K Q := by
  unfold Oper.wp execOp
  have he : a.tmps[q]?.getD undef = .agg #[x, y, z, u] := by rw [← hq, Array.getD_eq_getD_getElem?]
  simp only [ho]
  go_simp
  exact h
theorem opStoreLs (q r g k : Nat) (A : Option Addr) (n c : Nat) (u : Value) (ho : o.op = .store 26 (.tmp q) (.tmp r)) (hq : a.tmps.getD q undef = .pointer (some ⟨g, k, none⟩)) (hr : a.tmps.getD r undef = .slice A n c) (hc : w.cell? ⟨g, k, none⟩ = some u) (hf : w.frozen? ⟨g, k, none⟩ = false) (h : K (a.put o.dst undef) (w.setCell ⟨g, k, none⟩ (.slice A n c))) : o.wp Tryz.prog a w K Q := by
  unfold Oper.wp execOp
  have he : a.eval (.tmp q) = .pointer (some ⟨g, k, none⟩) := hq
  have hv : a.eval (.tmp r) = .slice A n c := hr
  simp only [ho, he, hv]
  go_simp
  (try exact h)
end
/-- an append of a copied line, and its store -/
structure CpI (V : World) (p0 ov lv : Value) (x : Ln) (S : Value → World → Prop) (F : World → Prop) (dn : Nat → Bool) (val : Nat → Value) (X : World) : Prop where
  s0 : dn 0 = true → val 0 = p0
  s1 : dn 1 = true → val 1 = ov
  s2 : dn 2 = true → val 2 = lv
  s6 : dn 6 = true → val 6 = p0
  bel : dn 5 = false → Below V.heap.size V X
  e3 : dn 3 = true → dn 5 = false → ∃ r, val 3 = lnV x r ∧ InSl X X.heap.size r x.sn ∧ ∀ g, r.ownBlock = some g → V.heap.size ≤ g ∧ g < X.heap.size
  e4 : dn 4 = true → dn 5 = false → ∃ r g, val 4 = .slice (some ⟨g, 0, none⟩) 1 1 ∧ X.heap[g]? = some (.cells #[.int .i64 x.nm, .int .i64 x.lo, .int .i64 x.hi, r] 83) ∧ InSl X X.heap.size r x.sn ∧ ∀ g, r.ownBlock = some g → V.heap.size ≤ g ∧ g < X.heap.size
  e5 : dn 5 = true → dn 7 = false → S (val 5) X
  e7 : dn 7 = true → F X
section
variable {V : World} {p0 ov lv : Value} {x : Ln} {S : Value → World → Prop} {F : World → Prop} {dn : Nat → Bool} {val : Nat → Value} {X Y : World}
theorem CpI.op0 (h : CpI V p0 ov lv x S F dn val X) : CpI V p0 ov lv x S F (andB dn 0) (updV val 0 (p0)) X :=
  ⟨(fun _ => rfl), h.s1, h.s2, h.s6, h.bel, h.e3, h.e4, h.e5, h.e7⟩
theorem CpI.op1 (h : CpI V p0 ov lv x S F dn val X) : CpI V p0 ov lv x S F (andB dn 1) (updV val 1 (ov)) X :=
  ⟨h.s0, (fun _ => rfl), h.s2, h.s6, h.bel, h.e3, h.e4, h.e5, h.e7⟩
theorem CpI.op2 (h : CpI V p0 ov lv x S F dn val X) : CpI V p0 ov lv x S F (andB dn 2) (updV val 2 (lv)) X :=
  ⟨h.s0, h.s1, (fun _ => rfl), h.s6, h.bel, h.e3, h.e4, h.e5, h.e7⟩
theorem CpI.op6 (h : CpI V p0 ov lv x S F dn val X) : CpI V p0 ov lv x S F (andB dn 6) (updV val 6 (p0)) X :=
  ⟨h.s0, h.s1, h.s2, (fun _ => rfl), h.bel, h.e3, h.e4, h.e5, h.e7⟩
theorem CpI.op3 (h : CpI V p0 ov lv x S F dn val X) (n4 : dn 4 = false) (n5 : dn 5 = false) (n7 : dn 7 = false) {v : Value} (hv : ∃ r, v = lnV x r ∧ InSl Y Y.heap.size r x.sn ∧ ∀ g, r.ownBlock = some g → V.heap.size ≤ g ∧ g < Y.heap.size) (hb : Below X.heap.size X Y) : CpI V p0 ov lv x S F (andB dn 3) (updV val 3 v) Y :=
  ⟨h.s0, h.s1, h.s2, h.s6, (fun n => (h.bel n).trans (hb.mono (h.bel n).size)), (fun _ _ => hv), (fun d => f_t n4 d), (fun d => f_t n5 d), (fun d => f_t n7 d)⟩
theorem CpI.op4 (h : CpI V p0 ov lv x S F dn val X) (n5 : dn 5 = false) (n7 : dn 7 = false) {r : Value} (hr : InSl X X.heap.size r x.sn ∧ ∀ g, r.ownBlock = some g → V.heap.size ≤ g ∧ g < X.heap.size) : CpI V p0 ov lv x S F (andB dn 4) (updV val 4 (.slice (some ⟨X.heap.size, 0, none⟩) 1 1)) (X.alloc (.cells #[.int .i64 x.nm, .int .i64 x.lo, .int .i64 x.hi, r] 83)) :=
  ⟨h.s0, h.s1, h.s2, h.s6, (fun n => (h.bel n).alloc (h.bel n).size _), (fun d n => by
    obtain ⟨r', e1, e2, e3⟩ := h.e3 d n
    exact ⟨r', e1, e2.step (below_new _), fun g e => ⟨(e3 g e).1, by simp; have := (e3 g e).2; omega⟩⟩), (fun _ _ => ⟨r, _, rfl, World.alloc_heap_new X _, hr.1.step (below_new _), fun g e => ⟨(hr.2 g e).1, by simp; have := (hr.2 g e).2; omega⟩⟩), (fun d => f_t n5 d), (fun d => f_t n7 d)⟩
theorem CpI.op5 (h : CpI V p0 ov lv x S F dn val X) (n7 : dn 7 = false) {v : Value} (hS : S v Y) : CpI V p0 ov lv x S F (andB dn 5) (updV val 5 v) Y :=
  ⟨h.s0, h.s1, h.s2, h.s6, (fun n => nomatch n), (fun _ n => nomatch n), (fun _ n => nomatch n), (fun _ _ => hS), (fun d => f_t n7 d)⟩
theorem CpI.op7 (h : CpI V p0 ov lv x S F dn val X) (y5 : dn 5 = true) (v : Value) (hF : F Y) : CpI V p0 ov lv x S F (andB dn 7) (updV val 7 v) Y :=
  ⟨h.s0, h.s1, h.s2, h.s6, (fun n => f_t n y5), (fun _ n => f_t n y5), (fun _ n => f_t n y5), (fun _ n => nomatch n), (fun _ => hF)⟩
end
/-- the sheet with other lines -/
def pgL (p : Pg) (l : List Ln) : Pg := ⟨p.ob, p.yr, p.lv, p.sx, p.sy, p.nt, p.lm, p.lo, p.hi, l⟩
theorem put_pg {Y : World} {g : Nat} {p : Pg} {v u : Value} (h : Y.heap[g]? = some (.cells (pgC p v) 28)) : (Y.setCell ⟨g, 9, none⟩ u).heap[g]? = some (.cells (pgC p u) 28) := by
  rw [put_cell h]; rfl
/-- a sheet's cells written at once -/
def put10 (w : World) (g : Nat) (p : Pg) (v : Value) : World := (((((((((w.setCell ⟨g, 0, none⟩ (.int .i64 p.ob)).setCell ⟨g, 1, none⟩ (.int .i64 p.yr)).setCell ⟨g, 2, none⟩ (.int .i64 p.lv)).setCell ⟨g, 3, none⟩ (.int .i64 p.sx)).setCell ⟨g, 4, none⟩ (.int .i64 p.sy)).setCell ⟨g, 5, none⟩ (.int .i64 p.nt)).setCell ⟨g, 6, none⟩ (.int .i64 p.lm)).setCell ⟨g, 7, none⟩ (.int .i64 p.lo)).setCell ⟨g, 8, none⟩ (.int .i64 p.hi)).setCell ⟨g, 9, none⟩ v
theorem put10_heap {w : World} {g : Nat} {p : Pg} {v u0 u1 u2 u3 u4 u5 u6 u7 u8 u9 : Value} {t : TypeId} (h : w.heap[g]? = some (.cells #[u0, u1, u2, u3, u4, u5, u6, u7, u8, u9] t)) : (put10 w g p v).heap[g]? = some (.cells (pgC p v) t) := by
  have h1 : (((w.setCell ⟨g, 0, none⟩ (.int .i64 p.ob)).setCell ⟨g, 1, none⟩ (.int .i64 p.yr)).setCell ⟨g, 2, none⟩ (.int .i64 p.lv)).heap[g]? = some (.cells #[.int .i64 p.ob, .int .i64 p.yr, .int .i64 p.lv, u3, u4, u5, u6, u7, u8, u9] t) := by
    rw [put_cell (put_cell (put_cell h))]; rfl
  have h2 : ((((((w.setCell ⟨g, 0, none⟩ (.int .i64 p.ob)).setCell ⟨g, 1, none⟩ (.int .i64 p.yr)).setCell ⟨g, 2, none⟩ (.int .i64 p.lv)).setCell ⟨g, 3, none⟩ (.int .i64 p.sx)).setCell ⟨g, 4, none⟩ (.int .i64 p.sy)).setCell ⟨g, 5, none⟩ (.int .i64 p.nt)).heap[g]? = some (.cells #[.int .i64 p.ob, .int .i64 p.yr, .int .i64 p.lv, .int .i64 p.sx, .int .i64 p.sy, .int .i64 p.nt, u6, u7, u8, u9] t) := by
    rw [put_cell (put_cell (put_cell h1))]; rfl
  unfold put10
  rw [put_cell (put_cell (put_cell (put_cell h2)))]; rfl
theorem put10_lo {W X : World} {T : Nat} {L : List Ln} {vals : List Value} {vs : Value} (h : LoI W T L vals vs X) (g : Nat) (h0 : W.heap.size ≤ g) (hT : g < T) (p : Pg) (v : Value) : LoI W T L vals vs (put10 X g p v) := by
  unfold put10
  exact (((((((((h.other (setCell_grown' _ _ _ _) h0 hT).other (setCell_grown' _ _ _ _) h0 hT).other (setCell_grown' _ _ _ _) h0 hT).other (setCell_grown' _ _ _ _) h0 hT).other (setCell_grown' _ _ _ _) h0 hT).other (setCell_grown' _ _ _ _) h0 hT).other (setCell_grown' _ _ _ _) h0 hT).other (setCell_grown' _ _ _ _) h0 hT).other (setCell_grown' _ _ _ _) h0 hT).other (setCell_grown' _ _ _ _) h0 hT
set_option maxRecDepth 100000 in
set_option maxHeartbeats 16000000 in
theorem copyOf_any (v : Value) (p : Pg) (w : World) (hv : PgV w v p) (hp : PgSm p) : Calls Tryz.prog 98 #[v] w fun e w' => (∃ vl vals, e = .returned (pgV p vl) ∧ LoI w (w.heap.size + 3) p.ls vals vl w') ∧ Below w.heap.size w w' := by
  obtain ⟨A, c, W0, W1, rfl, hW0, hW1, hb1, hz0, hz1, hn1, hV, hL, hC⟩ := pg_box2 hv #[.int .i64 0, .int .i64 0, .int .i64 0, .int .i64 0, .int .i64 0, .int .i64 0, .int .i64 0, .int .i64 0, .int .i64 0, .slice none 0 0] 28
  have hl0 : LnSl w w.heap.size (.slice A p.ls.length c) p.ls := by
    obtain ⟨vl, e, h⟩ := hv
    have e2 : Value.slice A p.ls.length c = vl := by unfold pgV at e; simpa using e
    rw [e2]; exact h
  have hb2 := below_new (w := W1) (.cells (pgC p (.slice A p.ls.length c)) 28)
  have hn2 := World.alloc_heap_new W1 (.cells (pgC p (.slice A p.ls.length c)) 28)
  obtain ⟨W2, hW2⟩ : ∃ W, W1.alloc (.cells (pgC p (.slice A p.ls.length c)) 28) = W := ⟨_, rfl⟩
  have hz2 : W2.heap.size = w.heap.size + 1 + 1 + 1 := by rw [← hW2]; simp [hz1]
  rw [hW2] at hb2 hn2
  rw [hz1] at hn2
  have hn3 := put_pg (u := .slice none 0 0) hn2
  have hb3 : Below w.heap.size w (W2.setCell ⟨w.heap.size + 1 + 1, 9, none⟩ (.slice none 0 0)) := (hb1.trans (hb2.mono hb1.size)).setCell (by show _ ≤ _ + 1 + 1; omega) _
  have HN := Lib.hid (And.intro (show (W2.setCell ⟨w.heap.size + 1 + 1, 9, none⟩ (.slice none 0 0)).heap[w.heap.size + 1]? = some (.cells #[.int .i64 0, .int .i64 0, .int .i64 0, .int .i64 0, .int .i64 0, .int .i64 0, .int .i64 0, .int .i64 0, .int .i64 0, .slice none 0 0] 28) from (put_other (b := w.heap.size + 1) (g := w.heap.size + 1 + 1) (by omega)).trans ((hb2.block _ (by omega)).trans hn1)) hn3)
  have HB := Lib.hid hb3
  obtain ⟨_, _, _, _, _, _, _, _, _, k9⟩ := pg_cells hn2
  have f9 := frozen_cells hn2 9
  obtain ⟨_, _, _, _, _, _, _, _, _, b9⟩ := hC W2 (hb2.mono (by omega))
  have HL0 := Lib.hid hl0
  have HSn := Lib.hid hp.2
  have hn := hp.1
  obtain ⟨g0, g1, g2, g3, g4, g5, g6, g7, g8, g9⟩ := hC W1 (Below.refl _ _)
  obtain ⟨n, hn'⟩ : ∃ n, p.ls.length = n := ⟨_, rfl⟩
  have HNl := Lib.hid hn'
  unfold pgV
  unfold pgC at hW0 hW2
  rw [hn'] at hn g9 k9 b9 hW0 hW2 HL0 ⊢
  have HZ := Lib.hid (And.intro hz0 (And.intro hz1 hz2))
  have hsz : w.heap.size + 3 ≤ (W2.setCell ⟨w.heap.size + 1 + 1, 9, none⟩ (.slice none 0 0)).heap.size := by simp [hz2]
  clear hv hp hb1 hb2 hb3 hn1 hn2 hn3 hz2 hn' hV hL hC hl0
  go_enter Tryz.func98, Tryz.ntmps98
  go_wp2_with fail
  clear hW0 hW1 hW2 hz0 hz1 g0 g1 g2 g3 g4 g5 g6 g7 g8 g9 k9 f9 b9
  go_loopw [11] (fun iv wr => ∃ (i : Nat) (vals : List Value) (ov : Value), iv = .int .i64 (i : Int) ∧ i ≤ n ∧ wr.heap[w.heap.size + 1]? = some (.cells #[.int .i64 0, .int .i64 0, .int .i64 0, .int .i64 0, .int .i64 0, .int .i64 0, .int .i64 0, .int .i64 0, .int .i64 0, .slice none 0 0] 28) ∧ wr.heap[w.heap.size + 1 + 1]? = some (.cells (pgC p ov) 28) ∧ LoI w (w.heap.size + 3) (p.ls.take i) vals ov wr) (fun iv _ => n - (intOf iv).toNat)
  case atStart => exact ⟨0, [], .slice none 0 0, rfl, by omega, HN.out.1, HN.out.2, LoI.start _ _ HB.out hsz⟩
  case round =>
    obtain ⟨i, vals, ov, rfl, hin, hr1, hr2, hO⟩ := hrel
    have HO := Lib.hid hO
    have HR := Lib.hid (And.intro hr1 hr2)
    by_cases hlt : i < n
    · obtain ⟨x, ad, As, cs, hx, rfl, hY⟩ := HL0.out.at_ hlt
      obtain ⟨⟨l0, l1, l2, l3⟩, hsn⟩ := hY wr hO.bel
      have hbn := below_new (w := wr) (.cells #[.int .i64 x.nm, .int .i64 x.lo, .int .i64 x.hi, .slice As x.sn.length cs] 83)
      have hnn := World.alloc_heap_new wr (.cells #[.int .i64 x.nm, .int .i64 x.lo, .int .i64 x.hi, .slice As x.sn.length cs] 83)
      obtain ⟨V, hV⟩ : ∃ V, wr.alloc (.cells #[.int .i64 x.nm, .int .i64 x.lo, .int .i64 x.hi, .slice As x.sn.length cs] 83) = V := ⟨_, rfl⟩
      rw [hV] at hbn hnn
      have HX := Lib.hid hx
      have HOV := Lib.hid (hO.step hbn)
      have HRV := Lib.hid (And.intro ((hbn.block _ (Array.getElem?_eq_some_iff.1 hr1).1).trans hr1) ((hbn.block _ (Array.getElem?_eq_some_iff.1 hr2).1).trans hr2))
      have HLn := Lib.hid hnn
      have HCp := Lib.hid (fun X (h : Below V.heap.size V X) => copyOfLine_any x (.slice As x.sn.length cs) X ((hsn.step hbn).step h) (by have := HSn.out x (List.mem_of_getElem? hx); omega))
      have HLe := Lib.hid (show (p.ls.take i).length ≤ 100000 from by rw [List.length_take]; omega)
      clear hx hY hsn hbn hnn hr1 hr2 hO
      go_wp2_with fail
      clear hV
      refine wp_opaque ?_
      intro t0 ht0
      have hsz0 : t0.size = 24 := by rw [ht0]; rfl
      have q3 : t0.getD 3 undef = .pointer (some ⟨w.heap.size + 1 + 1, 0, none⟩) := by rw [ht0]; rfl
      have q5 : t0.getD 5 undef = .pointer (some ⟨wr.heap.size, 0, none⟩) := by rw [ht0]; rfl
      have HT0 := Lib.hid ht0
      clear ht0
      have HBd := Lib.hid (fun X (hI : Below V.drew.heap.size V.drew X) => (Below.refl V.heap.size V).drew.trans hI)
      refine wp_region_vals [some 15, some 16, some 17, some 18, some 19, some 20, some 21, none] (CpI V.drew (.pointer (some ⟨w.heap.size + 1 + 1, 9, none⟩)) ov (lnV x (.slice As x.sn.length cs)) x (fun u X => X.heap[w.heap.size + 1]? = some (.cells #[.int .i64 0, .int .i64 0, .int .i64 0, .int .i64 0, .int .i64 0, .int .i64 0, .int .i64 0, .int .i64 0, .int .i64 0, .slice none 0 0] 28) ∧ X.heap[w.heap.size + 1 + 1]? = some (.cells (pgC p ov) 28) ∧ ∃ vals, LoI w (w.heap.size + 3) (p.ls.take i ++ [x]) vals u X) (fun X => ∃ vals u, X.heap[w.heap.size + 1]? = some (.cells #[.int .i64 0, .int .i64 0, .int .i64 0, .int .i64 0, .int .i64 0, .int .i64 0, .int .i64 0, .int .i64 0, .int .i64 0, .slice none 0 0] 28) ∧ X.heap[w.heap.size + 1 + 1]? = some (.cells (pgC p u) 28) ∧ LoI w (w.heap.size + 3) (p.ls.take i ++ [x]) vals u X)) (by kernel_rfl) (by kernel_rfl) rfl rfl (by simp [hsz0]) (by kernel_rfl) ?_ ?_ ?_
      · intro val
        exact ⟨(fun h => nomatch h), (fun h => nomatch h), (fun h => nomatch h), (fun h => nomatch h), fun _ => Below.refl _ _, (fun h => nomatch h), (fun h => nomatch h), (fun h => nomatch h), (fun h => nomatch h)⟩
      · intro dn qq o hi hd hp hc val X a ha hn' hI K hK
        have hq : qq < 8 := by
          have := (Array.getElem?_eq_some_iff.1 hi).1
          simpa using this
        have bf : ∀ {q : Bool}, (q = true → False) → q = false := fun {q} h => by cases q; rfl; exact (h rfl).elim
        have c7 : dn 7 = true → dn 5 = true ∧ dn 6 = true := fun h => ⟨hc 7 _ rfl h ⟨5, .data⟩ (by simp) rfl, hc 7 _ rfl h ⟨6, .data⟩ (by simp) rfl⟩
        have c5 : dn 5 = true → dn 1 = true ∧ dn 4 = true := fun h => ⟨hc 5 _ rfl h ⟨1, .data⟩ (by simp) rfl, hc 5 _ rfl h ⟨4, .data⟩ (by simp) rfl⟩
        have c4 : dn 4 = true → dn 3 = true := fun h => hc 4 _ rfl h ⟨3, .data⟩ (by simp) rfl
        have c3 : dn 3 = true → dn 2 = true := fun h => hc 3 _ rfl h ⟨2, .data⟩ (by simp) rfl
        have pg : ∀ X, Below V.heap.size V X → X.cell? ⟨w.heap.size + 1 + 1, 9, none⟩ = some ov := fun X h => by
          have h2 := (h.block _ (Array.getElem?_eq_some_iff.1 HRV.out.2).1).trans HRV.out.2
          exact (pg_cells h2).2.2.2.2.2.2.2.2.2
        rcases (show qq = 0 ∨ qq = 1 ∨ qq = 2 ∨ qq = 3 ∨ qq = 4 ∨ qq = 5 ∨ qq = 6 ∨ qq = 7 by omega) with rfl | rfl | rfl | rfl | rfl | rfl | rfl | rfl
        · obtain rfl := Option.some.inj hi
          exact opFieldPg 3 _ rfl ((ha 3).trans q3) (hK _ _ hI.op0)
        · obtain rfl := Option.some.inj hi
          have n5 : dn 5 = false := bf fun h => f_t hd (c5 h).1
          exact opLdLs 15 _ _ rfl ((ha 15).trans (hI.s0 (hp ⟨0, .data⟩ (by simp) rfl))) (pg X (HBd.out X (hI.bel n5))) (hK _ _ hI.op1)
        · obtain rfl := Option.some.inj hi
          have n5 : dn 5 = false := bf fun h => f_t hd (c3 (c4 (c5 h).2))
          have hBX := HBd.out X (hI.bel n5)
          exact opLdLn 5 _ _ _ _ _ rfl ((ha 5).trans q5) ((hBX.block _ (Array.getElem?_eq_some_iff.1 HLn.out).1).trans HLn.out) (hK _ _ hI.op2)
        · obtain rfl := Option.some.inj hi
          have n4 : dn 4 = false := bf fun h => f_t hd (c4 h)
          have n5 : dn 5 = false := bf fun h => f_t n4 (c5 h).2
          have n7 : dn 7 = false := bf fun h => f_t n5 (c7 h).1
          have hBX := HBd.out X (hI.bel n5)
          refine opCall1 152 _ 17 _ _ rfl ((ha 17).trans (hI.s2 (hp ⟨2, .data⟩ (by simp) rfl))) (by go_simp) (HCp.out X hBX) ?_
          rintro e Y ⟨⟨r, rfl, h1, h2⟩, hb⟩
          exact ⟨_, rfl, hK _ _ (hI.op3 n4 n5 n7 ⟨r, rfl, h1, fun g e => ⟨Nat.le_trans (hI.bel n5).size (h2 g e).1, (h2 g e).2⟩⟩ hb)⟩
        · obtain rfl := Option.some.inj hi
          have n5 : dn 5 = false := bf fun h => f_t hd (c5 h).2
          have n7 : dn 7 = false := bf fun h => f_t n5 (c7 h).1
          obtain ⟨r, e3, h3⟩ := hI.e3 (hp ⟨3, .data⟩ (by simp) rfl) n5
          exact opBoxLn 18 _ _ _ _ rfl ((ha 18).trans e3) (hK _ _ (hI.op4 n5 n7 h3))
        · obtain rfl := Option.some.inj hi
          have n7 : dn 7 = false := bf fun h => f_t hd (c7 h).1
          obtain ⟨r, g, e4, hg, hr1, hr2⟩ := hI.e4 (hp ⟨4, .data⟩ (by simp) rfl) hd
          have hBX := HBd.out X (hI.bel hd)
          have hVd : V.drew.heap.size = V.heap.size := rfl
          refine run_app_ln (.tmp 16) (.tmp 19) rfl ((ha 16).trans (hI.s1 (hp ⟨1, .data⟩ (by simp) rfl))) (HOV.out.step hBX) g ((ha 19).trans e4) hg hr1 (fun g' e => ⟨fun e2 => by
            have h1 := (hr2 g' e).1
            have h2 := (HOV.out.lt e2).2
            omega, (hr2 g' e).2⟩) (fun g' e => by have h1 := (hr2 g' e).1; have h2 := HOV.out.tb; omega) HLe.out ?_
          intro v' w' k1 k2 k3
          have kk : ∀ b o, b < w.heap.size + 3 → X.heap[b]? = some o → w'.heap[b]? = some o := fun b o hb ho => (k2.block _ (Array.getElem?_eq_some_iff.1 ho).1 (fun e => by have := HOV.out.ot b e.symm; omega)).trans ho
          exact hK _ _ (hI.op5 n7 ⟨kk _ _ (by omega) ((hBX.block _ (Array.getElem?_eq_some_iff.1 HRV.out.1).1).trans HRV.out.1), kk _ _ (by omega) ((hBX.block _ (Array.getElem?_eq_some_iff.1 HRV.out.2).1).trans HRV.out.2), _, k1⟩)
        · obtain rfl := Option.some.inj hi
          exact opFieldPg 3 _ rfl ((ha 3).trans q3) (hK _ _ hI.op6)
        · obtain rfl := Option.some.inj hi
          have y5 := hp ⟨5, .data⟩ (by simp) rfl
          obtain ⟨s1, s2, vals', s3⟩ := hI.e5 y5 hd
          obtain ⟨A5, c5', e5⟩ := s3.slice
          have hc9 := (pg_cells s2).2.2.2.2.2.2.2.2.2
          refine opStoreLs 21 20 _ _ _ _ _ _ rfl ((ha 21).trans (hI.s6 (hp ⟨6, .data⟩ (by simp) rfl))) ((ha 20).trans e5) hc9 (frozen_cells s2 9) (hK _ _ (hI.op7 y5 _ ?_))
          rw [← e5]
          exact ⟨vals', val 5, (put_other (b := w.heap.size + 1) (g := w.heap.size + 1 + 1) (by omega)).trans s1, put_pg s2, s3.other (setCell_grown' X _ _ _) (by omega) (by omega)⟩
      · intro dn val X hdn hI
        obtain ⟨vals', u, f1, f2, f3⟩ := hI.e7 (hdn 7 (by simp))
        have HF := Lib.hid (And.intro f1 (And.intro f2 f3))
        simp only [wrS, HT0.out]
        simp only [List.setIfInBounds_toArray, List.set_cons_succ, List.set_cons_zero]
        (try simp only [Exit.then])
        clear hdn hI HT0 hsz0 q3 q5 HBd f1 f2 f3 l0 l1 l2 l3
        generalize val 0 = z0 at *
        generalize val 1 = z1 at *
        generalize val 2 = z2 at *
        generalize val 3 = z3 at *
        generalize val 4 = z4 at *
        generalize val 5 = z5 at *
        generalize val 6 = z6 at *
        (try go_wp2_with fail)
        go_roundw
        case rel => exact ⟨i + 1, vals', u, by go_num, by omega, HF.out.1, HF.out.2.1, by rw [show p.ls.take (i + 1) = p.ls.take i ++ [x] from by rw [List.take_add_one, HX.out]; rfl]; exact HF.out.2.2⟩
        case measure => simp [intOf]; omega
    · obtain rfl : n = i := by omega
      have hO2 := hO
      rw [List.take_of_length_le (by rw [HNl.out]; exact Nat.le_refl _)] at hO2
      obtain ⟨Ao, co, eo⟩ := hO2.slice
      rw [HNl.out] at eo
      subst eo
      obtain ⟨k0, k1, k2, k3, k4, k5, k6, k7, k8, k9⟩ := pg_cells hr2
      obtain ⟨j0, j1, j2, j3, j4, j5, j6, j7, j8, j9⟩ := pg_cells (p := ⟨0, 0, 0, 0, 0, 0, 0, 0, 0, []⟩) (vl := .slice none 0 0) hr1
      have f0 := frozen_cells hr1 0
      have f1 := frozen_cells hr1 1
      have f2 := frozen_cells hr1 2
      have f3 := frozen_cells hr1 3
      have f4 := frozen_cells hr1 4
      have f5 := frozen_cells hr1 5
      have f6 := frozen_cells hr1 6
      have f7 := frozen_cells hr1 7
      have f8 := frozen_cells hr1 8
      have f9 := frozen_cells hr1 9
      have hfin := put10_heap (p := p) (v := .slice Ao n co) hr1
      have HO2 := Lib.hid (put10_lo hO2 (w.heap.size + 1) (by omega) (by omega) p (.slice Ao n co))
      obtain ⟨r0, r1, r2, r3, r4, r5, r6, r7, r8, r9⟩ := pg_cells hfin
      unfold put10 at r0 r1 r2 r3 r4 r5 r6 r7 r8 r9
      clear hO hO2 hfin
      go_wp2_with fail
      exact bodyPost_ret (v := .agg #[.int .i64 p.ob, .int .i64 p.yr, .int .i64 p.lv, .int .i64 p.sx, .int .i64 p.sy, .int .i64 p.nt, .int .i64 p.lm, .int .i64 p.lo, .int .i64 p.hi, .slice Ao n co]) (by simp [results, Tryz.results98, go_sem, r0, r1, r2, r3, r4, r5, r6, r7, r8, r9]) rfl ⟨⟨_, rfl, vals, HO2.out⟩, HO2.out.bel⟩
end Go.Proofs.YtijidcigfdblaaaGreatDoor
