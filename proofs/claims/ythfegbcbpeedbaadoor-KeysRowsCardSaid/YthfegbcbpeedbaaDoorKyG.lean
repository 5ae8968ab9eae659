/- find, Row. -/
import Derived.Test.YthfegbcbpeedbaaDoorKyF
namespace Go.Ky
open Go.Nm
theorem find_at {α : Type} {p : α → Bool} {L : List α} {i : Nat} {r : α} (h : L[i]? = some r) (hp : p r = true) (hno : ∀ x ∈ L.take i, p x = false) : L.find? p = some r := by
  obtain ⟨hi, rfl⟩ := List.getElem?_eq_some_iff.1 h
  have e : L = L.take i ++ L[i] :: L.drop (i + 1) := by rw [← List.drop_eq_getElem_cons hi, List.take_append_drop]
  have e2 : L.find? p = (L.take i ++ L[i] :: L.drop (i + 1)).find? p := congrArg (List.find? p) e
  rw [e2, List.find?_append, List.find?_eq_none.2 (fun x hx => by simp [hno x hx]), Option.none_or, List.find?_cons_of_pos hp]
def rowO (m : Mx) (name : Int) : Option Rw := m.rows.find? fun r => decide (r.nm = name)
def rowF (m : Mx) (name : Int) : Rw := if mxF m = true then (rowO m name).getD ⟨0, []⟩ else ⟨0, []⟩
def rowE (m : Mx) (name : Int) : Int := if mxF m = true then (if (rowO m name).isSome = true then 0 else 1) else 30
end Go.Ky
namespace Go.Proofs.YthfegbcbpeedbaaDoor
open Go.RowKit Go.Nm Go.Ky

def Fr (B : Nat) (X : World) (u : Value) (L : List Int) : Prop := InSl X X.heap.size u L ∧ ∀ g, u.ownBlock = some g → B ≤ g ∧ g < X.heap.size
theorem Fr.step {B : Nat} {X Y : World} {u : Value} {L : List Int} (h : Fr B X u L) (hb : Below X.heap.size X Y) : Fr B Y u L := ⟨h.1.step hb, fun g e => ⟨(h.2 g e).1, Nat.lt_of_lt_of_le (h.2 g e).2 hb.size⟩⟩
theorem Fr.low {B B' : Nat} {X : World} {u : Value} {L : List Int} (h : Fr B X u L) (hb : B' ≤ B) : Fr B' X u L := ⟨h.1, fun g e => ⟨Nat.le_trans hb (h.2 g e).1, (h.2 g e).2⟩⟩
theorem OwN.fr {W X : World} {u : Value} {L : List Int} (h : OwN W u L X) : Fr W.heap.size X u L := ⟨h.sl, fun g e => h.own.lt g e⟩
theorem Fr.nil (B : Nat) (X : World) : Fr B X (.slice none 0 0) [] := ⟨InSl.nil _ _, fun g e => by cases e⟩
theorem cell_one {w : World} {g : Nat} {a : Value} {t : TypeId} (h : w.heap[g]? = some (.cells #[a] t)) : w.cell? ⟨g, 0, none⟩ = some a := by
  simp [World.cell?, h]
set_option maxRecDepth 100000 in
set_option maxHeartbeats 4000000 in
theorem row1_any (q : Rw) (Am : Option Addr) (cm g : Nat) (name : Int) (w : World) (hb : w.heap[g]? = some (.cells #[.int .i64 name] 3)) :
    Calls Tryd.prog 62 #[.agg #[.int .i64 q.nm, .slice Am q.may.length cm], .pointer (some ⟨g, 0, none⟩)] w fun e w' => e = .returned (.bool (decide (q.nm = name))) ∧ Below w.heap.size w w' := by
  have c0 := cell_one ((Below.heap_alloc w (.cells #[.int .i64 q.nm, .slice Am q.may.length cm] 35) g (Array.getElem?_eq_some_iff.1 hb).1).trans hb)
  have hz : g < w.heap.size := (Array.getElem?_eq_some_iff.1 hb).1
  have HB := Lib.hid (below_new (w := w) (.cells #[.int .i64 q.nm, .slice Am q.may.length cm] 35))
  generalize q.may.length = n at *
  clear hb
  go_enter Tryd.func62, Tryd.ntmps62
  go_wp2_with fail
  go_ret
  exact ⟨by first | rfl | simp, HB.out⟩
set_option maxRecDepth 100000 in
set_option maxHeartbeats 4000000 in
theorem IndexRow_any (g : Nat) (name : Int) (v : Value) (L : List Rw) (w : World) (hv : IlSl w w.heap.size v L) (hg : w.heap[g]? = some (.cells #[.int .i64 name] 3)) (hn : L.length ≤ 100000) :
    Calls Tryd.prog 110 #[v, .func (.func 62) #[] #[.pointer (some ⟨g, 0, none⟩)]] w fun e w' =>
      ((∃ (i : Nat) (r : Rw), e = .returned (.int .i64 (i : Int)) ∧ L[i]? = some r ∧ i < L.length ∧ L.find? (fun r => decide (r.nm = name)) = some r) ∨ (e = .returned (.int .i64 (-1)) ∧ L.find? (fun r => decide (r.nm = name)) = none)) ∧ Below w.heap.size w w' := by
  have HG := Lib.hid (fun Y (h : Below w.heap.size w Y) => (h.block _ (Array.getElem?_eq_some_iff.1 hg).1).trans hg)
  have HU := Lib.hid hv
  obtain ⟨A, c, rfl⟩ := hv.form
  obtain ⟨n, h⟩ : ∃ n, L.length = n := ⟨_, rfl⟩
  have HN := Lib.hid h
  rw [h] at HU hn ⊢
  clear hv h hg
  go_enter Tryd.func110, Tryd.ntmps110
  go_wp2_with fail
  go_loopw [8] (fun iv wr => ∃ i : Nat, iv = .int .i64 (i : Int) ∧ i ≤ n ∧ Below w.heap.size w wr ∧ ∀ x ∈ L.take i, decide (x.nm = name) = false) (fun iv _ => n - (intOf iv).toNat)
  case atStart => exact ⟨0, rfl, by omega, Below.refl _ _, fun x hx => by simp at hx⟩
  case round =>
    obtain ⟨i, rfl, hin, hb, hno⟩ := hrel
    have HB := Lib.hid hb
    have HNo := Lib.hid hno
    clear hb hno
    by_cases hlt : i < n
    · obtain ⟨r, ad, Am, cm, hr, rfl, hY⟩ := HU.out.at_ hlt
      obtain ⟨⟨d0, d1⟩, _⟩ := hY wr HB.out
      have HR := Lib.hid hr
      have HC := Lib.hid (row1_any r Am cm g name wr (HG.out wr HB.out))
      clear hr hY
      go_wp2_with fail
      (with_reducible refine HC.out.mono ?_)
      rintro e w1 ⟨rfl, hb⟩
      have HB1 := Lib.hid (HB.out.trans (hb.mono HB.out.size))
      clear hb d0 d1 HC
      cases hp : decide (r.nm = name) with
      | true =>
        have HF := Lib.hid (find_at (p := fun r => decide (r.nm = name)) HR.out hp HNo.out)
        clear hp
        go_wp2_with fail
        go_ret
        exact ⟨.inl ⟨i, r, rfl, HR.out, hlt, HF.out⟩, HB1.out⟩
      | false =>
        have HP := Lib.hid hp
        clear hp
        go_wp2_with fail
        go_roundw
        case rel => exact ⟨i + 1, by go_num, by omega, HB1.out, fun x hx => by
          rw [show L.take (i + 1) = L.take i ++ [r] from by rw [List.take_add_one, HR.out]; rfl] at hx
          rcases List.mem_append.1 hx with hx | hx
          · exact HNo.out x hx
          · simp at hx; subst hx; exact HP.out⟩
        case measure => simp [intOf]; omega
    · obtain rfl : n = i := by omega
      have HF := Lib.hid (show L.find? (fun r => decide (r.nm = name)) = none from List.find?_eq_none.2 fun x hx => by
        have h := HNo.out x (by rw [List.take_of_length_le (by have := HN.out; omega)]; exact hx)
        simpa using h)
      go_wp2_with fail
      go_ret
      exact ⟨.inr ⟨rfl, HF.out⟩, HB.out⟩
set_option maxRecDepth 100000 in
set_option maxHeartbeats 4000000 in
theorem find_any (g : Nat) (name : Int) (v : Value) (L : List Rw) (w : World) (hv : IlSl w w.heap.size v L) (hg : w.heap[g]? = some (.cells #[.int .i64 name] 3)) (hn : L.length ≤ 100000) :
    Calls Tryd.prog 61 #[v, .func (.func 62) #[] #[.pointer (some ⟨g, 0, none⟩)]] w fun e w' =>
      ((∃ r Am cm, L.find? (fun r => decide (r.nm = name)) = some r ∧ e = .returned (.tuple #[.agg #[.int .i64 r.nm, .slice Am r.may.length cm], .bool true]) ∧ InSl w' w'.heap.size (.slice Am r.may.length cm) r.may) ∨ (L.find? (fun r => decide (r.nm = name)) = none ∧ e = .returned (.tuple #[.agg #[.int .i64 0, .slice none 0 0], .bool false]))) ∧ Below w.heap.size w w' := by
  have hb := below_new (w := w) (.cells #[.int .i64 0, .slice none 0 0] 35)
  have hnw := World.alloc_heap_new w (.cells #[.int .i64 0, .slice none 0 0] 35)
  have HB := Lib.hid hb
  have HNw := Lib.hid hnw
  have HI := Lib.hid (IndexRow_any g name v L (w.alloc (.cells #[.int .i64 0, .slice none 0 0] 35)) (hv.step hb) ((hb.block _ (Array.getElem?_eq_some_iff.1 hg).1).trans hg) hn)
  have HU := Lib.hid hv
  obtain ⟨A, c, rfl⟩ := hv.form
  obtain ⟨n, h⟩ : ∃ n, L.length = n := ⟨_, rfl⟩
  rw [h] at HU hn HI ⊢
  clear hv h hg hb hnw
  go_enter Tryd.func61, Tryd.ntmps61
  go_wp2_with fail
  (with_reducible refine HI.out.mono ?_)
  rintro e w1 ⟨hR, hb1⟩
  have HB1 := Lib.hid (HB.out.trans (hb1.mono HB.out.size))
  have hN1 := (hb1.block _ (Array.getElem?_eq_some_iff.1 HNw.out).1).trans HNw.out
  obtain ⟨r0, r1⟩ := cells_two hN1
  have f0 := frozen_cells hN1 0
  have f1 := frozen_cells hN1 1
  have HN1 := Lib.hid hN1
  clear hb1 hN1
  rcases hR with ⟨i, r, rfl, hr, hi, hf⟩ | ⟨rfl, hf⟩
  · obtain ⟨r', ad, Am, cm, hr', rfl, hY⟩ := HU.out.at_ (show i < n from by omega)
    rw [hr] at hr'; injection hr' with hr'; subst hr'
    obtain ⟨⟨d0, d1⟩, _⟩ := hY w1 HB1.out
    have HBf := Lib.hid (show Below w.heap.size w ((w1.setCell ⟨w.heap.size, 0, none⟩ (.int .i64 r.nm)).setCell ⟨w.heap.size, 1, none⟩ (.slice Am r.may.length cm)) from (HB1.out.setCell (by simp) _).setCell (by simp) _)
    have HS := Lib.hid ((hY _ HBf.out).2)
    have HF := Lib.hid hf
    have hin : i < n := by omega
    obtain ⟨k, hk⟩ : ∃ k, r.may.length = k := ⟨_, rfl⟩
    have HK := Lib.hid hk
    rw [hk] at d1 HBf HS
    clear hY hf hr hi hk
    go_wp2_with fail
    exact bodyPost_ret (v := .tuple #[.agg #[.int .i64 r.nm, .slice Am k cm], .bool true]) (by simp [results, Tryd.results61, go_sem, r0, r1]) rfl ⟨.inl ⟨r, Am, cm, HF.out, by rw [HK.out], by rw [HK.out]; exact HS.out⟩, HBf.out⟩
  · have HF := Lib.hid hf
    clear hf
    go_wp2_with fail
    exact bodyPost_ret (v := .tuple #[.agg #[.int .i64 0, .slice none 0 0], .bool false]) (by simp [results, Tryd.results61, go_sem, r0, r1]) rfl ⟨.inr ⟨HF.out, rfl⟩, (HB1.out.setCell (by simp) _).setCell (by simp) _⟩
end Go.Proofs.YthfegbcbpeedbaaDoor
