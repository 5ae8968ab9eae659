/- Row. -/
import Derived.Test.YthfegbcbpeedbaaDoorKyF
namespace Go.Ky
open Go.Nm
theorem find_at {α : Type} {p : α → Bool} {L : List α} {i : Nat} {r : α} (h : L[i]? = some r) (hp : p r = true) (hno : ∀ x ∈ L.take i, p x = false) : L.find? p = some r := by
  obtain ⟨hi, rfl⟩ := List.getElem?_eq_some_iff.1 h
  have e : L = L.take i ++ L[i] :: L.drop (i + 1) := by rw [← List.drop_eq_getElem_cons hi, List.take_append_drop]
  have e2 : L.find? p = (L.take i ++ L[i] :: L.drop (i + 1)).find? p := congrArg (List.find? p) e
  rw [e2, List.find?_append, List.find?_eq_none.2 (fun x hx => by simp [hno x hx]), Option.none_or, List.find?_cons_of_pos hp]
def rowO (m : Mx) (name : Int) : Option Rw := m.rows.find? fun r => decide (r.nm = name)
def rowF (m : Mx) (name : Int) : Rw := if mxF m = true then (rowO m name).getD ⟨0, []⟩ else ⟨0, []⟩
def rowE (m : Mx) (name : Int) : Int := if mxF m = true then (if (rowO m name).isSome = true then 0 else 1) else 30
end Go.Ky
namespace Go.Proofs.YthfegbcbpeedbaaDoor
open Go.RowKit Go.Nm Go.Ky

def Fr (B : Nat) (X : World) (u : Value) (L : List Int) : Prop := InSl X X.heap.size u L ∧ ∀ g, u.ownBlock = some g → B ≤ g ∧ g < X.heap.size
theorem Fr.step {B : Nat} {X Y : World} {u : Value} {L : List Int} (h : Fr B X u L) (hb : Below X.heap.size X Y) : Fr B Y u L := ⟨h.1.step hb, fun g e => ⟨(h.2 g e).1, Nat.lt_of_lt_of_le (h.2 g e).2 hb.size⟩⟩
theorem Fr.low {B B' : Nat} {X : World} {u : Value} {L : List Int} (h : Fr B X u L) (hb : B' ≤ B) : Fr B' X u L := ⟨h.1, fun g e => ⟨Nat.le_trans hb (h.2 g e).1, (h.2 g e).2⟩⟩
theorem OwN.fr {W X : World} {u : Value} {L : List Int} (h : OwN W u L X) : Fr W.heap.size X u L := ⟨h.sl, fun g e => h.own.lt g e⟩
theorem Fr.nil (B : Nat) (X : World) : Fr B X (.slice none 0 0) [] := ⟨InSl.nil _ _, fun g e => by cases e⟩
theorem cell_one {w : World} {g : Nat} {a : Value} {t : TypeId} (h : w.heap[g]? = some (.cells #[a] t)) : w.cell? ⟨g, 0, none⟩ = some a := by
  simp [World.cell?, h]
set_option maxRecDepth 100000 in
set_option maxHeartbeats 4000000 in
theorem row1_any (q : Rw) (Am : Option Addr) (cm g : Nat) (name : Int) (w : World) (hb : w.heap[g]? = some (.cells #[.int .i64 name] 3)) :
    Calls Tryd.prog 62 #[.agg #[.int .i64 q.nm, .slice Am q.may.length cm], .pointer (some ⟨g, 0, none⟩)] w fun e w' => e = .returned (.bool (decide (q.nm = name))) ∧ Below w.heap.size w w' := by
  have c0 := cell_one ((Below.heap_alloc w (.cells #[.int .i64 q.nm, .slice Am q.may.length cm] 35) g (Array.getElem?_eq_some_iff.1 hb).1).trans hb)
  have hz : g < w.heap.size := (Array.getElem?_eq_some_iff.1 hb).1
  have HB := Lib.hid (below_new (w := w) (.cells #[.int .i64 q.nm, .slice Am q.may.length cm] 35))
  generalize q.may.length = n at *
  clear hb
  go_enter Tryd.func62, Tryd.ntmps62
  go_wp2_with fail
  go_ret
  exact ⟨by first | rfl | simp, HB.out⟩
set_option maxRecDepth 100000 in
set_option maxHeartbeats 4000000 in
theorem IndexRow_any (g : Nat) (name : Int) (v : Value) (L : List Rw) (w : World) (hv : IlSl w w.heap.size v L) (hg : w.heap[g]? = some (.cells #[.int .i64 name] 3)) (hn : L.length ≤ 100000) :
    Calls Tryd.prog 110 #[v, .func (.func 62) #[] #[.pointer (some ⟨g, 0, none⟩)]] w fun e w' =>
      ((∃ (i : Nat) (r : Rw), e = .returned (.int .i64 (i : Int)) ∧ L[i]? = some r ∧ i < L.length ∧ L.find? (fun r => decide (r.nm = name)) = some r) ∨ (e = .returned (.int .i64 (-1)) ∧ L.find? (fun r => decide (r.nm = name)) = none)) ∧ Below w.heap.size w w' := by
  have HG := Lib.hid (fun Y (h : Below w.heap.size w Y) => (h.block _ (Array.getElem?_eq_some_iff.1 hg).1).trans hg)
  have HU := Lib.hid hv
  obtain ⟨A, c, rfl⟩ := hv.form
  obtain ⟨n, h⟩ : ∃ n, L.length = n := ⟨_, rfl⟩
  have HN := Lib.hid h
  rw [h] at HU hn ⊢
  clear hv h hg
  go_enter Tryd.func110, Tryd.ntmps110
  go_wp2_with fail
  go_loopw [8] (fun iv wr => ∃ i : Nat, iv = .int .i64 (i : Int) ∧ i ≤ n ∧ Below w.heap.size w wr ∧ ∀ x ∈ L.take i, decide (x.nm = name) = false) (fun iv _ => n - (intOf iv).toNat)
  case atStart => exact ⟨0, rfl, by omega, Below.refl _ _, fun x hx => by simp at hx⟩
  case round =>
    obtain ⟨i, rfl, hin, hb, hno⟩ := hrel
    have HB := Lib.hid hb
    have HNo := Lib.hid hno
    clear hb hno
    by_cases hlt : i < n
    · obtain ⟨r, ad, Am, cm, hr, rfl, hY⟩ := HU.out.at_ hlt
      obtain ⟨⟨d0, d1⟩, _⟩ := hY wr HB.out
      have HR := Lib.hid hr
      have HC := Lib.hid (row1_any r Am cm g name wr (HG.out wr HB.out))
      clear hr hY
      go_wp2_with fail
      (with_reducible refine HC.out.mono ?_)
      rintro e w1 ⟨rfl, hb⟩
      have HB1 := Lib.hid (HB.out.trans (hb.mono HB.out.size))
      clear hb d0 d1 HC
      cases hp : decide (r.nm = name) with
      | true =>
        have HF := Lib.hid (find_at (p := fun r => decide (r.nm = name)) HR.out hp HNo.out)
        clear hp
        go_wp2_with fail
        go_ret
        exact ⟨.inl ⟨i, r, rfl, HR.out, hlt, HF.out⟩, HB1.out⟩
      | false =>
        have HP := Lib.hid hp
        clear hp
        go_wp2_with fail
        go_roundw
        case rel => exact ⟨i + 1, by go_num, by omega, HB1.out, fun x hx => by
          rw [show L.take (i + 1) = L.take i ++ [r] from by rw [List.take_add_one, HR.out]; rfl] at hx
          rcases List.mem_append.1 hx with hx | hx
          · exact HNo.out x hx
          · simp at hx; subst hx; exact HP.out⟩
        case measure => simp [intOf]; omega
    · obtain rfl : n = i := by omega
      have HF := Lib.hid (show L.find? (fun r => decide (r.nm = name)) = none from List.find?_eq_none.2 fun x hx => by
        have h := HNo.out x (by rw [List.take_of_length_le (by have := HN.out; omega)]; exact hx)
        simpa using h)
      go_wp2_with fail
      go_ret
      exact ⟨.inr ⟨rfl, HF.out⟩, HB.out⟩
set_option maxRecDepth 100000 in
set_option maxHeartbeats 4000000 in
theorem find_any (g : Nat) (name : Int) (v : Value) (L : List Rw) (w : World) (hv : IlSl w w.heap.size v L) (hg : w.heap[g]? = some (.cells #[.int .i64 name] 3)) (hn : L.length ≤ 100000) :
    Calls Tryd.prog 61 #[v, .func (.func 62) #[] #[.pointer (some ⟨g, 0, none⟩)]] w fun e w' =>
      ((∃ r Am cm, L.find? (fun r => decide (r.nm = name)) = some r ∧ e = .returned (.tuple #[.agg #[.int .i64 r.nm, .slice Am r.may.length cm], .bool true]) ∧ InSl w' w'.heap.size (.slice Am r.may.length cm) r.may) ∨ (L.find? (fun r => decide (r.nm = name)) = none ∧ e = .returned (.tuple #[.agg #[.int .i64 0, .slice none 0 0], .bool false]))) ∧ Below w.heap.size w w' := by
  have hb := below_new (w := w) (.cells #[.int .i64 0, .slice none 0 0] 35)
  have hnw := World.alloc_heap_new w (.cells #[.int .i64 0, .slice none 0 0] 35)
  have HB := Lib.hid hb
  have HNw := Lib.hid hnw
  have HI := Lib.hid (IndexRow_any g name v L (w.alloc (.cells #[.int .i64 0, .slice none 0 0] 35)) (hv.step hb) ((hb.block _ (Array.getElem?_eq_some_iff.1 hg).1).trans hg) hn)
  have HU := Lib.hid hv
  obtain ⟨A, c, rfl⟩ := hv.form
  obtain ⟨n, h⟩ : ∃ n, L.length = n := ⟨_, rfl⟩
  rw [h] at HU hn HI ⊢
  clear hv h hg hb hnw
  go_enter Tryd.func61, Tryd.ntmps61
  go_wp2_with fail
  (with_reducible refine HI.out.mono ?_)
  rintro e w1 ⟨hR, hb1⟩
  have HB1 := Lib.hid (HB.out.trans (hb1.mono HB.out.size))
  have hN1 := (hb1.block _ (Array.getElem?_eq_some_iff.1 HNw.out).1).trans HNw.out
  obtain ⟨r0, r1⟩ := cells_two hN1
  have f0 := frozen_cells hN1 0
  have f1 := frozen_cells hN1 1
  have HN1 := Lib.hid hN1
  clear hb1 hN1
  rcases hR with ⟨i, r, rfl, hr, hi, hf⟩ | ⟨rfl, hf⟩
  · obtain ⟨r', ad, Am, cm, hr', rfl, hY⟩ := HU.out.at_ (show i < n from by omega)
    rw [hr] at hr'; injection hr' with hr'; subst hr'
    obtain ⟨⟨d0, d1⟩, _⟩ := hY w1 HB1.out
    have HBf := Lib.hid (show Below w.heap.size w ((w1.setCell ⟨w.heap.size, 0, none⟩ (.int .i64 r.nm)).setCell ⟨w.heap.size, 1, none⟩ (.slice Am r.may.length cm)) from (HB1.out.setCell (by simp) _).setCell (by simp) _)
    have HS := Lib.hid ((hY _ HBf.out).2)
    have HF := Lib.hid hf
    have hin : i < n := by omega
    obtain ⟨k, hk⟩ : ∃ k, r.may.length = k := ⟨_, rfl⟩
    have HK := Lib.hid hk
    rw [hk] at d1 HBf HS
    clear hY hf hr hi hk
    go_wp2_with fail
    exact bodyPost_ret (v := .tuple #[.agg #[.int .i64 r.nm, .slice Am k cm], .bool true]) (by simp [results, Tryd.results61, go_sem, r0, r1]) rfl ⟨.inl ⟨r, Am, cm, HF.out, by rw [HK.out], by rw [HK.out]; exact HS.out⟩, HBf.out⟩
  · have HF := Lib.hid hf
    clear hf
    go_wp2_with fail
    exact bodyPost_ret (v := .tuple #[.agg #[.int .i64 0, .slice none 0 0], .bool false]) (by simp [results, Tryd.results61, go_sem, r0, r1]) rfl ⟨.inr ⟨HF.out, rfl⟩, (HB1.out.setCell (by simp) _).setCell (by simp) _⟩
end Go.Proofs.YthfegbcbpeedbaaDoor
namespace Go.Proofs.YthfegbcbpeedbaaDoor
open Go.RowKit Go.Nm Go.Ky

structure RyI (V : World) (g : Nat) (nv vm : Value) (may : List Int) (R : World → Prop) (dn : Nat → Bool) (val : Nat → Value) (X : World) : Prop where
  s0 : dn 0 = true → val 0 = nv
  s1 : dn 1 = true → val 1 = .pointer (some ⟨g, 1, none⟩)
  s2 : dn 2 = true → val 2 = vm
  s6 : dn 6 = true → val 6 = .int .i64 0
  bel : dn 5 = false → Below V.heap.size V X
  e3 : dn 3 = true → dn 5 = false → Fr V.heap.size X (val 3) may
  e4 : dn 4 = true → dn 5 = false → val 4 = .agg #[nv, val 3]
  e5 : dn 5 = true → R X
section
variable {V : World} {g : Nat} {nv vm : Value} {may : List Int} {R : World → Prop} {dn : Nat → Bool} {val : Nat → Value} {X Y : World}
theorem RyI.op0 (h : RyI V g nv vm may R dn val X) : RyI V g nv vm may R (andB dn 0) (updV val 0 (nv)) X :=
  ⟨(fun _ => rfl), h.s1, h.s2, h.s6, h.bel, h.e3, h.e4, h.e5⟩
theorem RyI.op1 (h : RyI V g nv vm may R dn val X) : RyI V g nv vm may R (andB dn 1) (updV val 1 (.pointer (some ⟨g, 1, none⟩))) X :=
  ⟨h.s0, (fun _ => rfl), h.s2, h.s6, h.bel, h.e3, h.e4, h.e5⟩
theorem RyI.op2 (h : RyI V g nv vm may R dn val X) : RyI V g nv vm may R (andB dn 2) (updV val 2 (vm)) X :=
  ⟨h.s0, h.s1, (fun _ => rfl), h.s6, h.bel, h.e3, h.e4, h.e5⟩
theorem RyI.op6 (h : RyI V g nv vm may R dn val X) : RyI V g nv vm may R (andB dn 6) (updV val 6 (.int .i64 0)) X :=
  ⟨h.s0, h.s1, h.s2, (fun _ => rfl), h.bel, h.e3, h.e4, h.e5⟩
theorem RyI.op3 (h : RyI V g nv vm may R dn val X) (n4 : dn 4 = false) (n5 : dn 5 = false) {u : Value} (hb : Below X.heap.size X Y) (hu : Fr X.heap.size Y u may) : RyI V g nv vm may R (andB dn 3) (updV val 3 (u)) (Y) :=
  ⟨h.s0, h.s1, h.s2, h.s6, (fun n => (h.bel n).trans (hb.mono (h.bel n).size)), (fun _ n => hu.low (h.bel n).size), (fun d => f_t n4 d), (fun d => f_t n5 d)⟩
theorem RyI.op4 (h : RyI V g nv vm may R dn val X)  : RyI V g nv vm may R (andB dn 4) (updV val 4 (.agg #[nv, val 3])) (X) :=
  ⟨h.s0, h.s1, h.s2, h.s6, h.bel, h.e3, (fun _ _ => rfl), h.e5⟩
theorem RyI.op5 (h : RyI V g nv vm may R dn val X) {u : Value} (hR : R Y) : RyI V g nv vm may R (andB dn 5) (updV val 5 (u)) (Y) :=
  ⟨h.s0, h.s1, h.s2, h.s6, (fun n => nomatch n), (fun _ n => nomatch n), (fun _ n => nomatch n), (fun _ => hR)⟩
end
section
variable {o : Oper} {a : Act} {w : World} {K : Act → World → Prop} {Q : Exit → Act → World → Prop}
set_option maxRecDepth 100000 in
theorem opFieldR (k : Nat) (q g : Nat) (hk : k < 2) (ho : o.op = .fieldAddr 35 (.tmp q) k) (hq : a.tmps.getD q undef = .pointer (some ⟨g, 0, none⟩)) (h : K (a.put o.dst (.pointer (some ⟨g, k, none⟩))) w) : o.wp Tryd.prog a w K Q := by
  unfold Oper.wp execOp
  have he : a.eval (.tmp q) = .pointer (some ⟨g, 0, none⟩) := hq
  simp only [ho, he]
  rcases (show k = 0 ∨ k = 1 by omega) with rfl | rfl <;>
  · go_simp
    exact h
theorem opAssignK (z : Value) (ho : o.op = .assign (.const z)) (h : K (a.put o.dst z) w) : o.wp Tryd.prog a w K Q := by
  unfold Oper.wp execOp
  simp only [ho]
  go_simp
  exact h
set_option maxRecDepth 100000 in
theorem opCallCl (q : Nat) (v1 : Value) (R : Ending → World → Prop) (ho : o.op = .call { callee := .value (.func 63), args := #[.tmp q], argTypes := #[22] }) (h1 : a.tmps.getD q undef = v1)
    (hc : Calls Tryd.prog 63 #[v1] w R) (h : ∀ e w', R e w' → ∃ v, e = .returned v ∧ K (a.put o.dst v) w') : o.wp Tryd.prog a w K Q := by
  unfold Oper.wp execOp
  have e1 : a.eval (.tmp q) = v1 := h1
  simp only [ho]
  go_simp
  refine hc.mono ?_
  intro e w' hR
  obtain ⟨v, rfl, hK⟩ := h e w' hR
  exact hK
set_option maxRecDepth 100000 in
theorem opBuildR (q r : Nat) (y : Int) (A1 : Option Addr) (n1 c1 : Nat) (ho : o.op = .build 35 #[(0, .tmp q), (1, .tmp r)]) (h1 : a.tmps.getD q undef = .int .i64 y) (h2 : a.tmps.getD r undef = .slice A1 n1 c1) (h : K (a.put o.dst (.agg #[.int .i64 y, .slice A1 n1 c1])) w) : o.wp Tryd.prog a w K Q := by
  unfold Oper.wp execOp
  have e1 : a.tmps[q]?.getD undef = .int .i64 y := by rw [← h1, Array.getD_eq_getD_getElem?]
  have e2 : a.tmps[r]?.getD undef = .slice A1 n1 c1 := by rw [← h2, Array.getD_eq_getD_getElem?]
  simp only [ho]
  go_simp
  exact h
set_option maxRecDepth 100000 in
theorem opStoreR (q r g : Nat) (y : Int) (A1 : Option Addr) (n1 d1 : Nat) (u1 u2 : Value) (ho : o.op = .store 35 (.tmp q) (.tmp r)) (hq : a.tmps.getD q undef = .pointer (some ⟨g, 0, none⟩)) (hr : a.tmps.getD r undef = .agg #[.int .i64 y, .slice A1 n1 d1]) (hg : w.heap[g]? = some (.cells #[u1, u2] 35)) (h : ∀ u, K (a.put o.dst u) ((w.setCell ⟨g, 0, none⟩ (.int .i64 y)).setCell ⟨g, 1, none⟩ (.slice A1 n1 d1))) : o.wp Tryd.prog a w K Q := by
  unfold Oper.wp execOp
  have he : a.eval (.tmp q) = .pointer (some ⟨g, 0, none⟩) := hq
  have he2 : a.eval (.tmp r) = .agg #[.int .i64 y, .slice A1 n1 d1] := hr
  obtain ⟨c0, c1⟩ := cells_two hg
  have f0 := frozen_cells hg 0
  have f1 := frozen_cells hg 1
  simp only [ho, he, he2]
  go_simp
  exact h _
end
set_option maxRecDepth 100000 in
set_option maxHeartbeats 8000000 in
theorem Row_any (v : Value) (m : Mx) (name : Int) (w : World) (hv : MxV w v m) (hs : MSm m) :
    Calls Tryd.prog 19 #[v, .int .i64 name] w fun e w' => (∃ rv, e = .returned (.tuple #[.agg #[.int .i64 (rowF m name).nm, rv], .int .i64 (rowE m name)]) ∧ Fr w.heap.size w' rv (rowF m name).may) ∧ Below w.heap.size w w' := by
  obtain ⟨A1, c1, A2, c2, W0, rfl, hW0, hb0, hM, hS, hR, hX⟩ := mx_box hv
  have hz : W0.heap.size = w.heap.size + 1 := by rw [← hW0]; simp
  have hba := below_new (w := W0) (.cells #[.int .i64 name] 3)
  have hna := World.alloc_heap_new W0 (.cells #[.int .i64 name] 3)
  obtain ⟨Wa, hWa⟩ : ∃ Wa, W0.alloc (.cells #[.int .i64 name] 3) = Wa := ⟨_, rfl⟩
  have hza : Wa.heap.size = w.heap.size + 1 + 1 := by rw [← hWa, ← hz]; simp
  rw [hWa] at hba hna
  have hbb := below_new (w := Wa) (.cells #[.int .i64 0, .slice none 0 0] 35)
  have hnb := World.alloc_heap_new Wa (.cells #[.int .i64 0, .slice none 0 0] 35)
  obtain ⟨W1, hW1⟩ : ∃ W1, Wa.alloc (.cells #[.int .i64 0, .slice none 0 0] 35) = W1 := ⟨_, rfl⟩
  rw [hW1] at hbb hnb
  rw [hz] at hna
  rw [hza] at hnb
  have hna := (hbb.block _ (by omega)).trans hna
  have hb1 := hba.trans (hbb.mono hba.size)
  have HB1 := Lib.hid hb1
  have HW := Lib.hid (And.intro hW0 (And.intro hWa hW1))
  have HB0 := Lib.hid hb0
  have HX := Lib.hid (fun Y (h : Below W1.heap.size W1 Y) => And.intro (hX Y (hb1.trans (h.mono hb1.size))) (And.intro ((h.block _ (Array.getElem?_eq_some_iff.1 hna).1).trans hna) ((h.block _ (Array.getElem?_eq_some_iff.1 hnb).1).trans hnb)))
  have HC := Lib.hid (CheckMatrix_any _ m W1 (hM W1 hb1) hs)
  have HFd := Lib.hid (fun Y (h : Below W1.heap.size W1 Y) => find_any (w.heap.size + 1) name _ m.rows Y (hR Y (hb1.trans (h.mono hb1.size))) ((h.block _ (Array.getElem?_eq_some_iff.1 hna).1).trans hna) (by have := hs.2.1; omega))
  have HM3 := Lib.hid hs.2.2
  have hzw : w.heap.size + 3 ≤ W1.heap.size := by rw [← hW1]; simp [hza]
  obtain ⟨⟨k0, k1⟩, hn, hr⟩ := HX.out W1 (Below.refl _ _)
  have n0 := cell_one hn
  generalize m.st.length = ns at *
  generalize m.rows.length = nr at *
  clear hv hs hW0 hb0 hM hS hR hX hba hna hbb hnb hb1 hWa hW1 hz hza hn hr
  cases hm : mxF m with
  | false =>
    have HF := Lib.hid (show cmE m = 30 ∧ rowE m name = 30 ∧ rowF m name = ⟨0, []⟩ from ⟨by unfold cmE; simp [hm], by unfold rowE; simp [hm], by unfold rowF; simp [hm]⟩)
    rw [HF.out.1] at HC
    rw [HF.out.2.1, HF.out.2.2]
    clear hm HF HFd
    go_enter Tryd.func19, Tryd.ntmps19
    go_wp2_with fail
    rw [HW.out.1, HW.out.2.1, HW.out.2.2]
    (try go_wp2_with fail)
    (with_reducible refine HC.out.mono ?_)
    rintro e w1 ⟨rfl, hb⟩
    have HB2 := Lib.hid (HB0.out.trans ((HB1.out.trans (hb.mono HB1.out.size)).mono HB0.out.size))
    obtain ⟨_, _, hr⟩ := HX.out w1 hb
    obtain ⟨r0, r1⟩ := cells_two hr
    have f0 := frozen_cells hr 0
    have f1 := frozen_cells hr 1
    clear hb hr k0 k1 n0
    go_wp2_with fail
    exact bodyPost_ret (v := .tuple #[.agg #[.int .i64 0, .slice none 0 0], .int .i64 30]) (by simp [results, Tryd.results19, go_sem, r0, r1]) rfl ⟨⟨_, rfl, Fr.nil _ _⟩, (HB2.out.setCell (by show _ ≤ _ + 1 + 1; omega) _).setCell (by show _ ≤ _ + 1 + 1; omega) _⟩
  | true =>
    have HF := Lib.hid (show cmE m = 0 ∧ rowE m name = (if (rowO m name).isSome = true then 0 else 1) ∧ rowF m name = (rowO m name).getD ⟨0, []⟩ from ⟨by unfold cmE; simp [hm], by unfold rowE; simp [hm], by unfold rowF; simp [hm]⟩)
    rw [HF.out.1] at HC
    rw [HF.out.2.1, HF.out.2.2]
    have HO := Lib.hid (show rowO m name = m.rows.find? (fun r => decide (r.nm = name)) from rfl)
    obtain ⟨ro, hro⟩ : ∃ ro, rowO m name = ro := ⟨_, rfl⟩
    rw [hro] at HO ⊢
    clear hm HF hro
    go_enter Tryd.func19, Tryd.ntmps19
    go_wp2_with fail
    rw [HW.out.1, HW.out.2.1, HW.out.2.2]
    (try go_wp2_with fail)
    (with_reducible refine HC.out.mono ?_)
    rintro e w1 ⟨rfl, hb⟩
    have HB2 := Lib.hid hb
    obtain ⟨⟨c0, c1⟩, _, _⟩ := HX.out w1 hb
    have HFd1 := Lib.hid (HFd.out w1 hb)
    clear hb k0 k1 n0 HC HFd
    go_wp2_with fail
    (with_reducible refine HFd1.out.mono ?_)
    rintro e w2 ⟨hR, hb⟩
    have HB3 := Lib.hid (HB2.out.trans (hb.mono HB2.out.size))
    clear hb c0 c1 HFd1
    rcases hR with ⟨r, Am, cm, hf, rfl, hi⟩ | ⟨hf, rfl⟩
    · rw [← HO.out] at hf
      subst hf
      have HN := Lib.hid (show r.nm = name ∧ r.may.length ≤ 1000 from ⟨by have := List.find?_some HO.out.symm; simpa using this, HM3.out r (List.mem_of_find?_eq_some HO.out.symm)⟩)
      have hbV := below_new (w := w2) (.cells #[.int .i64 r.nm, .slice Am r.may.length cm] 35)
      have hnV := World.alloc_heap_new w2 (.cells #[.int .i64 r.nm, .slice Am r.may.length cm] 35)
      have HIm := Lib.hid (hi.step hbV)
      clear hi
      have HBV := Lib.hid (HB3.out.trans (hbV.mono HB3.out.size))
      have HNV := Lib.hid hnV
      obtain ⟨k, hk⟩ : ∃ k, r.may.length = k := ⟨_, rfl⟩
      rw [hk] at hbV hnV HIm HBV HNV ⊢
      have hlt2 : w2.heap.size < (w2.alloc (.cells #[.int .i64 r.nm, .slice Am k cm] 35)).heap.size := (Array.getElem?_eq_some_iff.1 hnV).1
      have HKl := Lib.hid hk
      clear hk hbV hnV
      go_wp2_with fail
      obtain ⟨V, hV⟩ : ∃ V, w2.alloc (.cells #[.int .i64 r.nm, .slice Am k cm] 35) = V := ⟨_, rfl⟩
      rw [hV] at HIm HBV HNV hlt2 ⊢
      clear hV
      have hws : w.heap.size + 3 ≤ V.heap.size := by have := HBV.out.size; omega
      have HBd := Lib.hid (fun X (hI : Below V.drew.heap.size V.drew X) => (Below.refl V.heap.size V).drew.trans hI)
      have HY := Lib.hid (fun X (h : Below V.heap.size V X) => HX.out X (HBV.out.trans (h.mono HBV.out.size)))
      have HZ := Lib.hid (fun X (h : Below V.heap.size V X) => cells_two ((h.block w2.heap.size (by omega)).trans HNV.out))
      have HBw := Lib.hid (fun X (h : Below V.heap.size V X) => HB0.out.trans ((HB1.out.trans ((HBV.out.trans (h.mono HBV.out.size)).mono HB1.out.size)).mono HB0.out.size))
      refine wp_opaque ?_
      intro t0 ht0
      have hsz0 : t0.size = 30 := by rw [ht0]; rfl
      have t3 : t0.getD 3 undef = .pointer (some ⟨w.heap.size + 1, 0, none⟩) := by rw [ht0]; rfl
      have t4 : t0.getD 4 undef = .pointer (some ⟨w.heap.size + 1 + 1, 0, none⟩) := by rw [ht0]; rfl
      have t7 : t0.getD 7 undef = .pointer (some ⟨w2.heap.size, 0, none⟩) := by rw [ht0]; rfl
      have HT0 := Lib.hid ht0
      clear ht0
      refine wp_region_vals [some 25, some 26, some 27, some 28, some 29, none, some 5] (RyI V.drew w2.heap.size (.int .i64 name) (.slice Am k cm) r.may (fun X => ∃ rv, X.heap[w.heap.size + 1 + 1]? = some (.cells #[.int .i64 name, rv] 35) ∧ Fr w.heap.size X rv r.may ∧ Below w.heap.size w X)) (by kernel_rfl) (by kernel_rfl) rfl rfl (by simp [hsz0]) (by kernel_rfl) ?_ ?_ ?_
      · intro val
        exact ⟨(fun h => nomatch h), (fun h => nomatch h), (fun h => nomatch h), (fun h => nomatch h), fun _ => Below.refl _ _, (fun h => nomatch h), (fun h => nomatch h), (fun h => nomatch h)⟩
      · intro dn q o hi hd hp hc val X a ha hn hI K hK
        have hq : q < 7 := by
          have := (Array.getElem?_eq_some_iff.1 hi).1
          simpa using this
        have c4 : dn 4 = true → dn 0 = true ∧ dn 3 = true := fun h => ⟨hc 4 _ rfl h ⟨0, .data⟩ (by simp) rfl, hc 4 _ rfl h ⟨3, .data⟩ (by simp) rfl⟩
        have c5 : dn 5 = true → dn 4 = true := fun h => hc 5 _ rfl h ⟨4, .data⟩ (by simp) rfl
        have c2 : dn 2 = true → dn 1 = true := fun h => hc 2 _ rfl h ⟨1, .data⟩ (by simp) rfl
        have c3 : dn 3 = true → dn 2 = true := fun h => hc 3 _ rfl h ⟨2, .data⟩ (by simp) rfl
        have bf : ∀ {q : Bool}, (q = true → False) → q = false := fun {q} h => by cases q; rfl; exact (h rfl).elim
        rcases (show q = 0 ∨ q = 1 ∨ q = 2 ∨ q = 3 ∨ q = 4 ∨ q = 5 ∨ q = 6 by omega) with rfl | rfl | rfl | rfl | rfl | rfl | rfl
        · obtain rfl := Option.some.inj hi
          have n5 : dn 5 = false := bf fun h => f_t hd (c4 (c5 h)).1
          exact opLd 3 _ _ rfl ((ha 3).trans t3) (cell_one (HY.out X (HBd.out X (hI.bel n5))).2.1) (hK _ _ hI.op0)
        · obtain rfl := Option.some.inj hi
          exact opFieldR 1 7 _ (by decide) rfl ((ha 7).trans t7) (hK _ _ hI.op1)
        · obtain rfl := Option.some.inj hi
          have y1 := hp ⟨1, .data⟩ (by simp) rfl
          have n5 : dn 5 = false := bf fun h => f_t hd (c3 (c4 (c5 h)).2)
          exact opLdS 26 _ _ rfl ((ha 26).trans (hI.s1 y1)) (HZ.out X (HBd.out X (hI.bel n5))).2 (hK _ _ hI.op2)
        · obtain rfl := Option.some.inj hi
          have y2 := hp ⟨2, .data⟩ (by simp) rfl
          have n4 : dn 4 = false := bf fun h => f_t hd (c4 h).2
          have n5 : dn 5 = false := bf fun h => f_t n4 (c5 h)
          have hB := HBd.out X (hI.bel n5)
          refine opCallCl 27 _ _ rfl ((ha 27).trans (hI.s2 y2)) (clone_any _ r.may X (HIm.out.step hB) (by have := HN.out.2; omega)) ?_
          rintro e Y ⟨u, rfl, hO⟩
          exact ⟨u, rfl, hK _ _ (hI.op3 n4 n5 hO.bel hO.fr)⟩
        · obtain rfl := Option.some.inj hi
          have y0 := hp ⟨0, .data⟩ (by simp) rfl
          have y3 := hp ⟨3, .data⟩ (by simp) rfl
          have n5 : dn 5 = false := bf fun h => f_t hd (c5 h)
          obtain ⟨A5, d5, e5, _⟩ := (hI.e3 y3 n5).1.form
          have hK2 := hK _ _ hI.op4
          rw [e5] at hK2
          exact opBuildR 25 28 _ _ _ _ rfl ((ha 25).trans (hI.s0 y0)) ((ha 28).trans e5) hK2
        · obtain rfl := Option.some.inj hi
          have y4 := hp ⟨4, .data⟩ (by simp) rfl
          obtain ⟨y0, y3⟩ := c4 y4
          have h4 := hI.e4 y4 hd
          have h3 := hI.e3 y3 hd
          have hB := HBd.out X (hI.bel hd)
          obtain ⟨A5, d5, e5, _⟩ := h3.1.form
          rw [e5] at h4 h3
          have hg := (HY.out X hB).2.2
          refine opStoreR 4 29 (w.heap.size + 1 + 1) _ _ _ _ _ _ rfl ((ha 4).trans t4) ((ha 29).trans h4) hg (fun u => hK u _ (hI.op5 (u := u) ?_))
          have hg1 := heap_setCell_same X (w.heap.size + 1 + 1) 0 _ _ (.int .i64 name) hg
          have hg2 := heap_setCell_same _ (w.heap.size + 1 + 1) 1 _ _ (.slice A5 r.may.length d5) hg1
          have hfr : ∀ {u : Value} {M : List Int} {v : Value} {k : Nat} {Z : World}, Fr V.heap.size Z u M → Fr V.heap.size (Z.setCell ⟨w.heap.size + 1 + 1, k, none⟩ v) u M := fun {u M v k Z} h => by
            have hst := setCell_grown' Z (w.heap.size + 1 + 1) k v
            exact ⟨(h.1.keepOwn (w' := Z.setCell ⟨w.heap.size + 1 + 1, k, none⟩ v) fun p hp => by
              have := h.2 _ hp
              exact World.cell?_of_block (hst.block _ this.2 fun e => by injection e with e; omega)).mono hst.size, fun g e => ⟨(h.2 g e).1, Nat.lt_of_lt_of_le (h.2 g e).2 hst.size⟩⟩
          refine ⟨_, hg2, (hfr (hfr h3)).low (by omega), ?_⟩
          exact ((HBw.out X hB).setCell (by show _ ≤ _ + 1 + 1; omega) _).setCell (by show _ ≤ _ + 1 + 1; omega) _
        · obtain rfl := Option.some.inj hi
          exact opAssignK _ rfl (hK _ _ hI.op6)
      · intro dn val X hdn hI
        obtain ⟨rv, h1, h2, h3⟩ := hI.e5 (hdn 5 (by simp))
        have h6 := hI.s6 (hdn 6 (by simp))
        obtain ⟨r0, r1⟩ := cells_two h1
        simp only [wrS, HT0.out]
        simp only [List.setIfInBounds_toArray, List.set_cons_succ, List.set_cons_zero]
        rw [h6]
        simp only [Exit.then]
        clear hdn hI t3 t4 t7 hsz0 HT0 h6
        have HR := Lib.hid (And.intro h2 h3)
        clear h1 h2 h3
        (try go_wp2_with fail)
        (try rw [Exit.noGoto_ret])
        exact bodyPost_ret (v := .tuple #[.agg #[.int .i64 name, rv], .int .i64 0]) (by simp [results, Tryd.results19, go_sem, r0, r1]) rfl ⟨⟨rv, by rw [HN.out.1], HR.out.1⟩, HR.out.2⟩
    · rw [← HO.out] at hf
      subst hf
      have hbV := below_new (w := w2) (.cells #[.int .i64 0, .slice none 0 0] 35)
      have hb4 := HB3.out.trans (hbV.mono HB3.out.size)
      have HB4 := Lib.hid (HB0.out.trans ((HB1.out.trans (hb4.mono HB1.out.size)).mono HB0.out.size))
      obtain ⟨_, _, hr⟩ := HX.out _ hb4
      obtain ⟨r0, r1⟩ := cells_two hr
      have f0 := frozen_cells hr 0
      have f1 := frozen_cells hr 1
      clear hbV hb4 hr
      go_wp2_with fail
      exact bodyPost_ret (v := .tuple #[.agg #[.int .i64 0, .slice none 0 0], .int .i64 1]) (by simp [results, Tryd.results19, go_sem, r0, r1]) rfl ⟨⟨_, rfl, Fr.nil _ _⟩, (HB4.out.setCell (by show _ ≤ _ + 1 + 1; omega) _).setCell (by show _ ≤ _ + 1 + 1; omega) _⟩
end Go.Proofs.YthfegbcbpeedbaaDoor
