/- Matrices in memory, and which of them are valid. -/
import Derived.Test.YthfegbcbpeedbaaDoorKyB
namespace Go.Ky
open Go.Nm

structure Rw where
  nm : Int
  may : List Int
structure Mx where
  st : List Int
  rows : List Rw
def full (n : Int) : Int := 2 ^ n.toNat - 1
def setsF (st l : List Int) : Bool := decide (l.length = st.length) && (st.zip l).all fun p => decide (1 ≤ p.2 ∧ p.2 ≤ full p.1)
def chrF (st : List Int) : Bool := decide (0 < st.length ∧ st.length ≤ 64) && st.all fun n => decide (2 ≤ n ∧ n ≤ 16)
def rowsF (m : Mx) : Bool := decide (m.rows.length ≤ 400) && (decide (Nms (m.rows.map (·.nm))) && m.rows.all fun r => setsF m.st r.may)
def mxF (m : Mx) : Bool := chrF m.st && rowsF m
def cmE (m : Mx) : Int := if mxF m = true then 0 else 30
theorem all_take {α : Type} {g : α → Bool} {a : List α} {i : Nat} {x : α} (hx : a[i]? = some x) : (a.take (i + 1)).all g = ((a.take i).all g && g x) := by
  rw [show a.take (i + 1) = a.take i ++ [x] from by rw [List.take_add_one, hx]; rfl, List.all_append]
  simp
theorem all_false {α : Type} {g : α → Bool} {a : List α} {i : Nat} {x : α} (hx : a[i]? = some x) (h : g x = false) : a.all g = false := by
  rw [List.all_eq_false]
  exact ⟨x, List.mem_of_getElem? hx, by simp [h]⟩
theorem all_end {α : Type} {g : α → Bool} {a : List α} {n : Nat} (hn : a.length = n) (h : (a.take n).all g = true) : a.all g = true := by
  rwa [show a.take n = a from List.take_of_length_le (by omega)] at h
theorem zip_get {α β : Type} {a : List α} {b : List β} {i : Nat} {x : α} {y : β} (h1 : a[i]? = some x) (h2 : b[i]? = some y) : (a.zip b)[i]? = some (x, y) := List.getElem?_zip_eq_some.2 ⟨h1, h2⟩
theorem full_nat (k : Nat) : full (k : Int) = ((2 ^ k : Nat) : Int) - 1 := by unfold full; simp
theorem pow16 {k : Nat} (h : k ≤ 16) : 2 ^ k ≤ 65536 ∧ 1 ≤ 2 ^ k := ⟨Nat.le_trans (Nat.pow_le_pow_right (by omega) h) (by decide), Nat.one_le_two_pow⟩
end Go.Ky
namespace Go.Proofs.YthfegbcbpeedbaaDoor
open Go.RowKit Go.Nm Go.Ky

def IlA (w : World) (B : Nat) (A : Option Addr) (L : List Rw) : Prop :=
  ∀ (i : Nat) (c : Rw), L[i]? = some c → ∃ ad v, A = some ad ∧ ad.block < B ∧ w.cell? (ad.add (i * 2)) = some (.int .i64 c.nm) ∧ w.cell? ⟨(ad.add (i * 2)).block, (ad.add (i * 2)).off + 1, none⟩ = some v ∧ InSl w B v c.may
def IlSl (w : World) (B : Nat) (v : Value) (L : List Rw) : Prop := ∃ A c, v = .slice A L.length c ∧ IlA w B A L
section
variable {w w' : World} {B B' : Nat} {A : Option Addr} {L : List Rw} {v : Value}
theorem IlA.below (h : IlA w B A L) (hb : Below B w w') : IlA w' B A L := fun i c hc => by
  obtain ⟨ad, v, e, h1, h2, h3, h4⟩ := h i c hc
  exact ⟨ad, v, e, h1, (hb.cell (by rw [add_block]; exact h1)).trans h2, (hb.cell (p := ⟨(ad.add (i * 2)).block, _, none⟩) (by show (ad.add (i * 2)).block < B; rw [add_block]; exact h1)).trans h3, h4.below hb⟩
theorem IlA.mono (h : IlA w B A L) (hB : B ≤ B') : IlA w B' A L := fun i c hc => by
  obtain ⟨ad, v, e, h1, h2, h3, h4⟩ := h i c hc
  exact ⟨ad, v, e, by omega, h2, h3, h4.mono hB⟩
theorem IlSl.below (h : IlSl w B v L) (hb : Below B w w') : IlSl w' B v L := by
  obtain ⟨A, c, e, h⟩ := h; exact ⟨A, c, e, h.below hb⟩
theorem IlSl.mono (h : IlSl w B v L) (hB : B ≤ B') : IlSl w B' v L := by
  obtain ⟨A, c, e, h⟩ := h; exact ⟨A, c, e, h.mono hB⟩
theorem IlSl.step (h : IlSl w w.heap.size v L) (hb : Below w.heap.size w w') : IlSl w' w'.heap.size v L := (h.below hb).mono hb.size
theorem IlSl.form (h : IlSl w B v L) : ∃ A c, v = .slice A L.length c := by
  obtain ⟨A, c, e, _⟩ := h; exact ⟨A, c, e⟩
theorem IlSl.nil (w : World) (B : Nat) : IlSl w B (.slice none 0 0) [] := ⟨none, 0, rfl, fun i c h => by simp at h⟩
/-- a row, at every later world -/
theorem IlSl.at_ {n c : Nat} (h : IlSl w w.heap.size (.slice A n c) L) {i : Nat} (hi : i < n) : ∃ r ad Am cm, L[i]? = some r ∧ A = some ad ∧ ∀ Y, Below w.heap.size w Y → (Y.cell? (ad.add (i * 2)) = some (.int .i64 r.nm) ∧ Y.cell? ⟨(ad.add (i * 2)).block, (ad.add (i * 2)).off + 1, none⟩ = some (.slice Am r.may.length cm)) ∧ InSl Y Y.heap.size (.slice Am r.may.length cm) r.may := by
  obtain ⟨A', c', e, h2⟩ := h
  injection e with e1 e2 e3
  subst e1; subst e3
  have hi' : i < L.length := by omega
  have hr : L[i]? = some L[i] := List.getElem?_eq_getElem hi'
  obtain ⟨ad, v, e, h3, h4, h5, h6⟩ := h2 i _ hr
  obtain ⟨Am, cm, rfl, _⟩ := h6.form
  refine ⟨_, ad, Am, cm, hr, e, fun Y hY => ⟨⟨(hY.cell (by rw [add_block]; exact h3)).trans h4, (hY.cell (p := ⟨(ad.add (i * 2)).block, _, none⟩) (by show (ad.add (i * 2)).block < w.heap.size; rw [add_block]; exact h3)).trans h5⟩, h6.step hY⟩⟩
end
/-- v is a matrix -/
def MxV (w : World) (v : Value) (m : Mx) : Prop := ∃ v1 v2, v = .agg #[v1, v2] ∧ InSl w w.heap.size v1 m.st ∧ IlSl w w.heap.size v2 m.rows
def MSm (m : Mx) : Prop := m.st.length ≤ 1000 ∧ m.rows.length ≤ 1000 ∧ ∀ r ∈ m.rows, r.may.length ≤ 1000
theorem MxV.step {w w' : World} {v : Value} {m : Mx} (h : MxV w v m) (hb : Below w.heap.size w w') : MxV w' v m := by
  obtain ⟨v1, v2, e, h1, h2⟩ := h
  exact ⟨v1, v2, e, h1.step hb, h2.step hb⟩
theorem mx_box {w : World} {v : Value} {m : Mx} (hv : MxV w v m) : ∃ (A1 : Option Addr) (c1 : Nat) (A2 : Option Addr) (c2 : Nat) (W0 : World), v = .agg #[.slice A1 m.st.length c1, .slice A2 m.rows.length c2] ∧
    w.alloc (.cells #[.slice A1 m.st.length c1, .slice A2 m.rows.length c2] 25) = W0 ∧ Below w.heap.size w W0 ∧ (∀ Y, Below W0.heap.size W0 Y → MxV Y (.agg #[.slice A1 m.st.length c1, .slice A2 m.rows.length c2]) m) ∧
    (∀ Y, Below W0.heap.size W0 Y → InSl Y Y.heap.size (.slice A1 m.st.length c1) m.st) ∧ (∀ Y, Below W0.heap.size W0 Y → IlSl Y Y.heap.size (.slice A2 m.rows.length c2) m.rows) ∧
    ∀ Y, Below W0.heap.size W0 Y → Y.cell? ⟨w.heap.size, 0, none⟩ = some (.slice A1 m.st.length c1) ∧ Y.cell? ⟨w.heap.size, 1, none⟩ = some (.slice A2 m.rows.length c2) := by
  have hv0 := hv
  obtain ⟨v1, v2, rfl, h1, h2⟩ := hv
  obtain ⟨A1, c1, rfl, _⟩ := h1.form
  obtain ⟨A2, c2, rfl⟩ := h2.form
  have hb := below_new (w := w) (.cells #[.slice A1 m.st.length c1, .slice A2 m.rows.length c2] 25)
  have hn := World.alloc_heap_new w (.cells #[.slice A1 m.st.length c1, .slice A2 m.rows.length c2] 25)
  exact ⟨A1, c1, A2, c2, _, rfl, rfl, hb, fun Y h => (hv0.step hb).step h, fun Y h => (h1.step hb).step h, fun Y h => (h2.step hb).step h, fun Y h => cells_two ((h.block _ (Array.getElem?_eq_some_iff.1 hn).1).trans hn)⟩
set_option maxRecDepth 100000 in
set_option maxHeartbeats 4000000 in
theorem areCharacters_any (u : Value) (L : List Int) (w : World) (hu : InSl w w.heap.size u L) (hn : L.length ≤ 1000000) :
    Calls Tryd.prog 65 #[u] w fun e w' => e = .returned (.bool (chrF L)) ∧ w = w' := by
  obtain ⟨A, c, rfl, _⟩ := hu.form
  have HA := Lib.hid (show InA w w.heap.size A L from by obtain ⟨_, _, e, _, _, h⟩ := hu; cases e; exact h)
  obtain ⟨n, h⟩ : ∃ n, L.length = n := ⟨_, rfl⟩
  have HN := Lib.hid h
  have HR := Lib.hid (show chrF L = (decide (0 < n ∧ n ≤ 64) && L.all fun n => decide (2 ≤ n ∧ n ≤ 16)) from by unfold chrF; rw [h])
  obtain ⟨r, hr⟩ : ∃ r, chrF L = r := ⟨_, rfl⟩
  rw [hr] at HR ⊢
  rw [h] at hn ⊢
  clear hu h hr
  go_enter Tryd.func65, Tryd.ntmps65
  go_wp2_with fail
  go_loopw [7] (fun iv wr => ∃ i : Nat, iv = .int .i64 (i : Int) ∧ i ≤ n ∧ w = wr ∧ ((L.take i).all fun n => decide (2 ≤ n ∧ n ≤ 16)) = true) (fun iv _ => n - (intOf iv).toNat)
  case atStart => exact ⟨0, rfl, by omega, rfl, rfl⟩
  case round =>
    obtain ⟨i, rfl, hin, rfl, hg⟩ := hrel
    have HG := Lib.hid hg
    clear hg
    by_cases hlt : i < n
    · obtain ⟨x, ad, hx, rfl, _, hcx⟩ := HA.out.at_ HN.out hlt
      have HX := Lib.hid hx
      clear hx
      by_cases h1 : x < 2
      · have HF := Lib.hid (show r = false from by rw [HR.out, all_false HX.out (decide_eq_false (by omega)), Bool.and_false])
        go_wp2_with fail
        go_ret
        exact ⟨by rw [HF.out]; rfl, rfl⟩
      · by_cases h2 : 16 < x
        · have HF := Lib.hid (show r = false from by rw [HR.out, all_false HX.out (decide_eq_false (by omega)), Bool.and_false])
          go_wp2_with fail
          go_ret
          exact ⟨by rw [HF.out]; rfl, rfl⟩
        · have HT := Lib.hid (show ((L.take (i + 1)).all fun n => decide (2 ≤ n ∧ n ≤ 16)) = true from by rw [all_take HX.out, HG.out]; exact decide_eq_true ⟨by omega, by omega⟩)
          go_wp2_with fail
          go_roundw
          case rel => exact ⟨i + 1, by go_num, by omega, by first | trivial | rfl, HT.out⟩
          case measure => simp [intOf]; omega
    · obtain rfl : n = i := by omega
      have HT := Lib.hid (show r = decide (0 < n ∧ n ≤ 64) from by rw [HR.out, all_end HN.out HG.out, Bool.and_true])
      by_cases h1 : 0 < n
      · have h1i : (0 : Int) < (n : Int) := by omega
        by_cases h2 : n ≤ 64
        · have h2i : (n : Int) ≤ 64 := by omega
          have HF := Lib.hid (show r = true from by rw [HT.out]; exact decide_eq_true ⟨h1, h2⟩)
          clear h1 h2 HT
          go_wp2_with fail
          go_ret
          exact ⟨by rw [HF.out]; rfl, rfl⟩
        · have h2i : ¬ (n : Int) ≤ 64 := by omega
          have HF := Lib.hid (show r = false from by rw [HT.out]; exact decide_eq_false (by omega))
          clear h1 h2 HT
          go_wp2_with fail
          go_ret
          exact ⟨by rw [HF.out]; rfl, rfl⟩
      · have h1i : ¬ (0 : Int) < (n : Int) := by omega
        have HF := Lib.hid (show r = false from by rw [HT.out]; exact decide_eq_false (by omega))
        clear h1 HT
        go_wp2_with fail
        go_ret
        exact ⟨by rw [HF.out]; rfl, rfl⟩
set_option maxRecDepth 100000 in
set_option maxHeartbeats 4000000 in
theorem fullSet_any (k : Nat) (w : World) (hk : k ≤ 16) :
    Calls Tryd.prog 59 #[.int .i64 (k : Int)] w fun e w' => e = .returned (.int .i64 (full (k : Int))) ∧ w = w' := by
  rw [full_nat]
  obtain ⟨p1, p2⟩ := pow16 hk
  have HP := Lib.hid (show IntKind.i64.wrap (2 ^ k) = ((2 ^ k : Nat) : Int) from by rw [show ((2 : Int) ^ k) = ((2 ^ k : Nat) : Int) from by simp, IntKind.wrap_i64]; omega)
  have hki : (k : Int) ≤ 16 := by omega
  obtain ⟨m, hm⟩ : ∃ m, 2 ^ k = m := ⟨_, rfl⟩
  have hw := HP.out
  rw [hm] at hw p1 p2 ⊢
  clear HP hm
  go_enter Tryd.func59, Tryd.ntmps59
  go_wp2_with fail
  go_ret
  exact ⟨rfl, rfl⟩
end Go.Proofs.YthfegbcbpeedbaaDoor
