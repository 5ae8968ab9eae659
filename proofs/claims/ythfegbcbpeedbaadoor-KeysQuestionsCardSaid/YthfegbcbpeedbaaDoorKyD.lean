/- Which matrices are valid: areSets, areNames, namesOf, areRows. -/
import Derived.Test.YthfegbcbpeedbaaDoorKyB
namespace Go.Ky
open Go.Nm

structure Rw where
  nm : Int
  may : List Int
structure Mx where
  st : List Int
  rows : List Rw
def full (n : Int) : Int := 2 ^ n.toNat - 1
def setsF (st l : List Int) : Bool := decide (l.length = st.length) && (st.zip l).all fun p => decide (1 ≤ p.2 ∧ p.2 ≤ full p.1)
def chrF (st : List Int) : Bool := decide (0 < st.length ∧ st.length ≤ 64) && st.all fun n => decide (2 ≤ n ∧ n ≤ 16)
def rowsF (m : Mx) : Bool := decide (m.rows.length ≤ 400) && (decide (Nms (m.rows.map (·.nm))) && m.rows.all fun r => setsF m.st r.may)
def mxF (m : Mx) : Bool := chrF m.st && rowsF m
def cmE (m : Mx) : Int := if mxF m = true then 0 else 30
theorem all_take {α : Type} {g : α → Bool} {a : List α} {i : Nat} {x : α} (hx : a[i]? = some x) : (a.take (i + 1)).all g = ((a.take i).all g && g x) := by
  rw [show a.take (i + 1) = a.take i ++ [x] from by rw [List.take_add_one, hx]; rfl, List.all_append]
  simp
theorem all_false {α : Type} {g : α → Bool} {a : List α} {i : Nat} {x : α} (hx : a[i]? = some x) (h : g x = false) : a.all g = false := by
  rw [List.all_eq_false]
  exact ⟨x, List.mem_of_getElem? hx, by simp [h]⟩
theorem all_end {α : Type} {g : α → Bool} {a : List α} {n : Nat} (hn : a.length = n) (h : (a.take n).all g = true) : a.all g = true := by
  rwa [show a.take n = a from List.take_of_length_le (by omega)] at h
theorem zip_get {α β : Type} {a : List α} {b : List β} {i : Nat} {x : α} {y : β} (h1 : a[i]? = some x) (h2 : b[i]? = some y) : (a.zip b)[i]? = some (x, y) := List.getElem?_zip_eq_some.2 ⟨h1, h2⟩
theorem full_nat (k : Nat) : full (k : Int) = ((2 ^ k : Nat) : Int) - 1 := by unfold full; simp
theorem pow16 {k : Nat} (h : k ≤ 16) : 2 ^ k ≤ 65536 ∧ 1 ≤ 2 ^ k := ⟨Nat.le_trans (Nat.pow_le_pow_right (by omega) h) (by decide), Nat.one_le_two_pow⟩
end Go.Ky
namespace Go.Proofs.YthfegbcbpeedbaaDoor
open Go.RowKit Go.Nm Go.Ky

def IlA (w : World) (B : Nat) (A : Option Addr) (L : List Rw) : Prop :=
  ∀ (i : Nat) (c : Rw), L[i]? = some c → ∃ ad v, A = some ad ∧ ad.block < B ∧ w.cell? (ad.add (i * 2)) = some (.int .i64 c.nm) ∧ w.cell? ⟨(ad.add (i * 2)).block, (ad.add (i * 2)).off + 1, none⟩ = some v ∧ InSl w B v c.may
def IlSl (w : World) (B : Nat) (v : Value) (L : List Rw) : Prop := ∃ A c, v = .slice A L.length c ∧ IlA w B A L
section
variable {w w' : World} {B B' : Nat} {A : Option Addr} {L : List Rw} {v : Value}
theorem IlA.below (h : IlA w B A L) (hb : Below B w w') : IlA w' B A L := fun i c hc => by
  obtain ⟨ad, v, e, h1, h2, h3, h4⟩ := h i c hc
  exact ⟨ad, v, e, h1, (hb.cell (by rw [add_block]; exact h1)).trans h2, (hb.cell (p := ⟨(ad.add (i * 2)).block, _, none⟩) (by show (ad.add (i * 2)).block < B; rw [add_block]; exact h1)).trans h3, h4.below hb⟩
theorem IlA.mono (h : IlA w B A L) (hB : B ≤ B') : IlA w B' A L := fun i c hc => by
  obtain ⟨ad, v, e, h1, h2, h3, h4⟩ := h i c hc
  exact ⟨ad, v, e, by omega, h2, h3, h4.mono hB⟩
theorem IlSl.below (h : IlSl w B v L) (hb : Below B w w') : IlSl w' B v L := by
  obtain ⟨A, c, e, h⟩ := h; exact ⟨A, c, e, h.below hb⟩
theorem IlSl.mono (h : IlSl w B v L) (hB : B ≤ B') : IlSl w B' v L := by
  obtain ⟨A, c, e, h⟩ := h; exact ⟨A, c, e, h.mono hB⟩
theorem IlSl.step (h : IlSl w w.heap.size v L) (hb : Below w.heap.size w w') : IlSl w' w'.heap.size v L := (h.below hb).mono hb.size
theorem IlSl.form (h : IlSl w B v L) : ∃ A c, v = .slice A L.length c := by
  obtain ⟨A, c, e, _⟩ := h; exact ⟨A, c, e⟩
theorem IlSl.nil (w : World) (B : Nat) : IlSl w B (.slice none 0 0) [] := ⟨none, 0, rfl, fun i c h => by simp at h⟩
/-- a row, at every later world -/
theorem IlSl.at_ {n c : Nat} (h : IlSl w w.heap.size (.slice A n c) L) {i : Nat} (hi : i < n) : ∃ r ad Am cm, L[i]? = some r ∧ A = some ad ∧ ∀ Y, Below w.heap.size w Y → (Y.cell? (ad.add (i * 2)) = some (.int .i64 r.nm) ∧ Y.cell? ⟨(ad.add (i * 2)).block, (ad.add (i * 2)).off + 1, none⟩ = some (.slice Am r.may.length cm)) ∧ InSl Y Y.heap.size (.slice Am r.may.length cm) r.may := by
  obtain ⟨A', c', e, h2⟩ := h
  injection e with e1 e2 e3
  subst e1; subst e3
  have hi' : i < L.length := by omega
  have hr : L[i]? = some L[i] := List.getElem?_eq_getElem hi'
  obtain ⟨ad, v, e, h3, h4, h5, h6⟩ := h2 i _ hr
  obtain ⟨Am, cm, rfl, _⟩ := h6.form
  refine ⟨_, ad, Am, cm, hr, e, fun Y hY => ⟨⟨(hY.cell (by rw [add_block]; exact h3)).trans h4, (hY.cell (p := ⟨(ad.add (i * 2)).block, _, none⟩) (by show (ad.add (i * 2)).block < w.heap.size; rw [add_block]; exact h3)).trans h5⟩, h6.step hY⟩⟩
end
/-- v is a matrix -/
def MxV (w : World) (v : Value) (m : Mx) : Prop := ∃ v1 v2, v = .agg #[v1, v2] ∧ InSl w w.heap.size v1 m.st ∧ IlSl w w.heap.size v2 m.rows
def MSm (m : Mx) : Prop := m.st.length ≤ 1000 ∧ m.rows.length ≤ 1000 ∧ ∀ r ∈ m.rows, r.may.length ≤ 1000
theorem MxV.step {w w' : World} {v : Value} {m : Mx} (h : MxV w v m) (hb : Below w.heap.size w w') : MxV w' v m := by
  obtain ⟨v1, v2, e, h1, h2⟩ := h
  exact ⟨v1, v2, e, h1.step hb, h2.step hb⟩
theorem mx_box {w : World} {v : Value} {m : Mx} (hv : MxV w v m) : ∃ (A1 : Option Addr) (c1 : Nat) (A2 : Option Addr) (c2 : Nat) (W0 : World), v = .agg #[.slice A1 m.st.length c1, .slice A2 m.rows.length c2] ∧
    w.alloc (.cells #[.slice A1 m.st.length c1, .slice A2 m.rows.length c2] 25) = W0 ∧ Below w.heap.size w W0 ∧ (∀ Y, Below W0.heap.size W0 Y → MxV Y (.agg #[.slice A1 m.st.length c1, .slice A2 m.rows.length c2]) m) ∧
    (∀ Y, Below W0.heap.size W0 Y → InSl Y Y.heap.size (.slice A1 m.st.length c1) m.st) ∧ (∀ Y, Below W0.heap.size W0 Y → IlSl Y Y.heap.size (.slice A2 m.rows.length c2) m.rows) ∧
    ∀ Y, Below W0.heap.size W0 Y → Y.cell? ⟨w.heap.size, 0, none⟩ = some (.slice A1 m.st.length c1) ∧ Y.cell? ⟨w.heap.size, 1, none⟩ = some (.slice A2 m.rows.length c2) := by
  have hv0 := hv
  obtain ⟨v1, v2, rfl, h1, h2⟩ := hv
  obtain ⟨A1, c1, rfl, _⟩ := h1.form
  obtain ⟨A2, c2, rfl⟩ := h2.form
  have hb := below_new (w := w) (.cells #[.slice A1 m.st.length c1, .slice A2 m.rows.length c2] 25)
  have hn := World.alloc_heap_new w (.cells #[.slice A1 m.st.length c1, .slice A2 m.rows.length c2] 25)
  exact ⟨A1, c1, A2, c2, _, rfl, rfl, hb, fun Y h => (hv0.step hb).step h, fun Y h => (h1.step hb).step h, fun Y h => (h2.step hb).step h, fun Y h => cells_two ((h.block _ (Array.getElem?_eq_some_iff.1 hn).1).trans hn)⟩
set_option maxRecDepth 100000 in
set_option maxHeartbeats 4000000 in
theorem areCharacters_any (u : Value) (L : List Int) (w : World) (hu : InSl w w.heap.size u L) (hn : L.length ≤ 1000000) :
    Calls Tryd.prog 65 #[u] w fun e w' => e = .returned (.bool (chrF L)) ∧ w = w' := by
  obtain ⟨A, c, rfl, _⟩ := hu.form
  have HA := Lib.hid (show InA w w.heap.size A L from by obtain ⟨_, _, e, _, _, h⟩ := hu; cases e; exact h)
  obtain ⟨n, h⟩ : ∃ n, L.length = n := ⟨_, rfl⟩
  have HN := Lib.hid h
  have HR := Lib.hid (show chrF L = (decide (0 < n ∧ n ≤ 64) && L.all fun n => decide (2 ≤ n ∧ n ≤ 16)) from by unfold chrF; rw [h])
  obtain ⟨r, hr⟩ : ∃ r, chrF L = r := ⟨_, rfl⟩
  rw [hr] at HR ⊢
  rw [h] at hn ⊢
  clear hu h hr
  go_enter Tryd.func65, Tryd.ntmps65
  go_wp2_with fail
  go_loopw [7] (fun iv wr => ∃ i : Nat, iv = .int .i64 (i : Int) ∧ i ≤ n ∧ w = wr ∧ ((L.take i).all fun n => decide (2 ≤ n ∧ n ≤ 16)) = true) (fun iv _ => n - (intOf iv).toNat)
  case atStart => exact ⟨0, rfl, by omega, rfl, rfl⟩
  case round =>
    obtain ⟨i, rfl, hin, rfl, hg⟩ := hrel
    have HG := Lib.hid hg
    clear hg
    by_cases hlt : i < n
    · obtain ⟨x, ad, hx, rfl, _, hcx⟩ := HA.out.at_ HN.out hlt
      have HX := Lib.hid hx
      clear hx
      by_cases h1 : x < 2
      · have HF := Lib.hid (show r = false from by rw [HR.out, all_false HX.out (decide_eq_false (by omega)), Bool.and_false])
        go_wp2_with fail
        go_ret
        exact ⟨by rw [HF.out]; rfl, rfl⟩
      · by_cases h2 : 16 < x
        · have HF := Lib.hid (show r = false from by rw [HR.out, all_false HX.out (decide_eq_false (by omega)), Bool.and_false])
          go_wp2_with fail
          go_ret
          exact ⟨by rw [HF.out]; rfl, rfl⟩
        · have HT := Lib.hid (show ((L.take (i + 1)).all fun n => decide (2 ≤ n ∧ n ≤ 16)) = true from by rw [all_take HX.out, HG.out]; exact decide_eq_true ⟨by omega, by omega⟩)
          go_wp2_with fail
          go_roundw
          case rel => exact ⟨i + 1, by go_num, by omega, by first | trivial | rfl, HT.out⟩
          case measure => simp [intOf]; omega
    · obtain rfl : n = i := by omega
      have HT := Lib.hid (show r = decide (0 < n ∧ n ≤ 64) from by rw [HR.out, all_end HN.out HG.out, Bool.and_true])
      by_cases h1 : 0 < n
      · have h1i : (0 : Int) < (n : Int) := by omega
        by_cases h2 : n ≤ 64
        · have h2i : (n : Int) ≤ 64 := by omega
          have HF := Lib.hid (show r = true from by rw [HT.out]; exact decide_eq_true ⟨h1, h2⟩)
          clear h1 h2 HT
          go_wp2_with fail
          go_ret
          exact ⟨by rw [HF.out]; rfl, rfl⟩
        · have h2i : ¬ (n : Int) ≤ 64 := by omega
          have HF := Lib.hid (show r = false from by rw [HT.out]; exact decide_eq_false (by omega))
          clear h1 h2 HT
          go_wp2_with fail
          go_ret
          exact ⟨by rw [HF.out]; rfl, rfl⟩
      · have h1i : ¬ (0 : Int) < (n : Int) := by omega
        have HF := Lib.hid (show r = false from by rw [HT.out]; exact decide_eq_false (by omega))
        clear h1 HT
        go_wp2_with fail
        go_ret
        exact ⟨by rw [HF.out]; rfl, rfl⟩
set_option maxRecDepth 100000 in
set_option maxHeartbeats 4000000 in
theorem fullSet_any (k : Nat) (w : World) (hk : k ≤ 16) :
    Calls Tryd.prog 59 #[.int .i64 (k : Int)] w fun e w' => e = .returned (.int .i64 (full (k : Int))) ∧ w = w' := by
  rw [full_nat]
  obtain ⟨p1, p2⟩ := pow16 hk
  have HP := Lib.hid (show IntKind.i64.wrap (2 ^ k) = ((2 ^ k : Nat) : Int) from by rw [show ((2 : Int) ^ k) = ((2 ^ k : Nat) : Int) from by simp, IntKind.wrap_i64]; omega)
  have hki : (k : Int) ≤ 16 := by omega
  obtain ⟨m, hm⟩ : ∃ m, 2 ^ k = m := ⟨_, rfl⟩
  have hw := HP.out
  rw [hm] at hw p1 p2 ⊢
  clear HP hm
  go_enter Tryd.func59, Tryd.ntmps59
  go_wp2_with fail
  go_ret
  exact ⟨rfl, rfl⟩
end Go.Proofs.YthfegbcbpeedbaaDoor
namespace Go.Proofs.YthfegbcbpeedbaaDoor
open Go.RowKit Go.Nm Go.Ky

set_option maxRecDepth 100000 in
set_option maxHeartbeats 4000000 in
theorem areSets_any (v u : Value) (m : Mx) (l : List Int) (w : World) (hv : MxV w v m) (hc : chrF m.st = true) (hu : InSl w w.heap.size u l) (hl : l.length ≤ 1000000) :
    Calls Tryd.prog 88 #[v, u] w fun e w' => e = .returned (.bool (setsF m.st l)) ∧ Below w.heap.size w w' := by
  obtain ⟨A1, c1, A2, c2, W0, rfl, hW0, hb0, hM, hS, hR, hX⟩ := mx_box hv
  have HB0 := Lib.hid hb0
  have HW0 := Lib.hid hW0
  have hu0 := hu.step hb0
  obtain ⟨Au, cu, rfl, _⟩ := hu.form
  have HA := Lib.hid (show InA W0 W0.heap.size Au l from by obtain ⟨_, _, e, _, _, h⟩ := hu0; cases e; exact h)
  have HS := Lib.hid (show InA W0 W0.heap.size A1 m.st from by obtain ⟨_, _, e, _, _, h⟩ := hS W0 (Below.refl _ _); cases e; exact h)
  obtain ⟨k0, k1⟩ := hX W0 (Below.refl _ _)
  obtain ⟨n, hn⟩ : ∃ n, l.length = n := ⟨_, rfl⟩
  obtain ⟨ns, hns⟩ : ∃ ns, m.st.length = ns := ⟨_, rfl⟩
  have HN := Lib.hid hn
  have HNs := Lib.hid hns
  have HC := Lib.hid (show ∀ x ∈ m.st, 2 ≤ x ∧ x ≤ 16 from fun x hx => by
    unfold chrF at hc
    rw [Bool.and_eq_true] at hc
    exact of_decide_eq_true ((List.all_eq_true.1 hc.2) x hx))
  have HR := Lib.hid (show setsF m.st l = (decide (n = ns) && (m.st.zip l).all fun p => decide (1 ≤ p.2 ∧ p.2 ≤ full p.1)) from by unfold setsF; rw [hn, hns])
  obtain ⟨r, hr⟩ : ∃ r, setsF m.st l = r := ⟨_, rfl⟩
  rw [hr] at HR ⊢
  rw [hn] at hl ⊢
  rw [hns] at k0 HW0 ⊢
  clear hv hc hu hu0 hW0 hb0 hM hS hR hX hn hns hr
  by_cases h1 : n = ns
  case neg =>
    have hq : ((n : Int) != (ns : Int)) = true := by simp; omega
    have HF := Lib.hid (show r = false from by rw [HR.out, decide_eq_false h1, Bool.false_and])
    clear h1
    go_enter Tryd.func88, Tryd.ntmps88
    go_wp2_with fail
    rw [HW0.out]
    go_wp2_with fail
    go_ret
    exact ⟨by rw [HF.out]; rfl, HB0.out⟩
  case pos =>
  subst h1
  have hq : ((n : Int) != (n : Int)) = false := by simp
  have HT0 := Lib.hid (show r = (m.st.zip l).all fun p => decide (1 ≤ p.2 ∧ p.2 ≤ full p.1) from by rw [HR.out]; simp)
  clear HR
  obtain ⟨Z, hZ⟩ : ∃ Z, m.st.zip l = Z := ⟨_, rfl⟩
  have HZ := Lib.hid hZ
  rw [hZ] at HT0
  have HZl := Lib.hid (show Z.length = n from by rw [← hZ, List.length_zip, HN.out, HNs.out]; omega)
  clear hZ
  go_enter Tryd.func88, Tryd.ntmps88
  go_wp2_with fail
  rw [HW0.out]
  go_wp2_with fail
  go_loopw [15] (fun iv wr => ∃ i : Nat, iv = .int .i64 (i : Int) ∧ i ≤ n ∧ W0 = wr ∧ ((Z.take i).all fun p => decide (1 ≤ p.2 ∧ p.2 ≤ full p.1)) = true) (fun iv _ => n - (intOf iv).toNat)
  case atStart => exact ⟨0, rfl, by omega, rfl, rfl⟩
  case round =>
    obtain ⟨i, rfl, hin, rfl, hg⟩ := hrel
    have HG := Lib.hid hg
    clear hg
    by_cases hlt : i < n
    · obtain ⟨x, ad, hx, rfl, _, hcx⟩ := HA.out.at_ HN.out hlt
      obtain ⟨q, ad1, hq1, rfl, _, hcq⟩ := HS.out.at_ HNs.out hlt
      have HZi := Lib.hid (show Z[i]? = some (q, x) from by rw [← HZ.out]; exact zip_get hq1 hx)
      obtain ⟨hq2, hq3⟩ := HC.out q (List.mem_of_getElem? hq1)
      obtain ⟨k, rfl⟩ : ∃ k : Nat, q = (k : Int) := ⟨q.toNat, by omega⟩
      have HFu := Lib.hid (fullSet_any k W0 (by omega))
      obtain ⟨f, hf⟩ : ∃ f, full (k : Int) = f := ⟨_, rfl⟩
      have HFf := Lib.hid hf
      rw [hf] at HFu
      clear hx hq1 hf hq
      by_cases h1 : x < 1
      · have HF := Lib.hid (show r = false from by rw [HT0.out, all_false HZi.out (decide_eq_false (by simp only; omega))])
        go_wp2_with fail
        go_ret
        exact ⟨by rw [HF.out]; rfl, HB0.out⟩
      · go_wp2_with fail
        (with_reducible refine HFu.out.mono ?_)
        rintro e w2 ⟨rfl, rfl⟩
        by_cases h2 : f < x
        · have HF := Lib.hid (show r = false from by rw [HT0.out, all_false HZi.out (decide_eq_false (by simp only [HFf.out]; omega))])
          go_wp2_with fail
          go_ret
          exact ⟨by rw [HF.out]; rfl, HB0.out⟩
        · have HT := Lib.hid (show ((Z.take (i + 1)).all fun p => decide (1 ≤ p.2 ∧ p.2 ≤ full p.1)) = true from by rw [all_take HZi.out, HG.out]; exact decide_eq_true (by simp only [HFf.out]; omega))
          go_wp2_with fail
          go_roundw
          case rel => exact ⟨i + 1, by go_num, by omega, by first | trivial | rfl, HT.out⟩
          case measure => simp [intOf]; omega
    · obtain rfl : n = i := by omega
      have HF := Lib.hid (show r = true from by rw [HT0.out, all_end HZl.out HG.out])
      go_wp2_with fail
      go_ret
      exact ⟨by rw [HF.out]; rfl, HB0.out⟩
theorem nms_take {L : List Int} {i : Nat} {x la : Int} (h : Nms (L.take i)) (hx : L[i]? = some x) (h1 : ∀ y ∈ L.take i, y ≤ la) (h2 : la < x) (h3 : x ≤ 65535) (h0 : 0 ≤ la) : Nms (L.take (i + 1)) := by
  rw [show L.take (i + 1) = L.take i ++ [x] from by rw [List.take_add_one, hx]; rfl]
  refine ⟨List.pairwise_append.2 ⟨h.1, by simp, fun a ha c hc => by simp at hc; subst hc; have := h1 a ha; omega⟩, fun y hy => ?_⟩
  rcases List.mem_append.1 hy with hy | hy
  · exact h.2 y hy
  · simp at hy; subst hy; omega
theorem nms_not {L : List Int} {i : Nat} {x la : Int} (hx : L[i]? = some x) (h0 : i = 0 → la = 0) (h1 : 0 < i → L[i - 1]? = some la) (h : x ≤ la ∨ 65535 < x) : ¬ Nms L := fun hn => by
  have hw := hn.2 x (List.mem_of_getElem? hx)
  rcases h with h | h
  · by_cases e : i = 0
    · have := h0 e; omega
    · have h2 := h1 (by omega)
      have h3 := next_of_inc hn.1 h2 (by rw [show i - 1 + 1 = i by omega]; exact hx)
      omega
  · omega
set_option maxRecDepth 100000 in
set_option maxHeartbeats 4000000 in
theorem areNames_any (u : Value) (L : List Int) (w : World) (hu : InSl w w.heap.size u L) (hn : L.length ≤ 1000000) :
    Calls Tryd.prog 111 #[u] w fun e w' => e = .returned (.bool (decide (Nms L))) ∧ w = w' := by
  obtain ⟨A, c, rfl, _⟩ := hu.form
  have HA := Lib.hid (show InA w w.heap.size A L from by obtain ⟨_, _, e, _, _, h⟩ := hu; cases e; exact h)
  obtain ⟨n, h⟩ : ∃ n, L.length = n := ⟨_, rfl⟩
  have HN := Lib.hid h
  obtain ⟨r, hr⟩ : ∃ r, decide (Nms L) = r := ⟨_, rfl⟩
  have HR := Lib.hid hr
  rw [hr]
  rw [h] at hn ⊢
  clear hu h hr
  go_enter Tryd.func111, Tryd.ntmps111
  go_wp2_with fail
  go_loopw [3, 8] (fun lv iv wr => ∃ (i : Nat) (la : Int), iv = .int .i64 (i : Int) ∧ lv = .int .i64 la ∧ i ≤ n ∧ w = wr ∧ Nms (L.take i) ∧ (∀ y ∈ L.take i, y ≤ la) ∧ 0 ≤ la ∧ la ≤ 65535 ∧ (i = 0 → la = 0) ∧ (0 < i → L[i - 1]? = some la)) (fun _ iv _ => n - (intOf iv).toNat)
  case atStart => exact ⟨0, 0, rfl, rfl, by omega, rfl, ⟨List.Pairwise.nil, fun x hx => nomatch hx⟩, by simp, by omega, by omega, fun _ => rfl, fun h => absurd h (by omega)⟩
  case round =>
    obtain ⟨i, la, rfl, rfl, hin, rfl, hg1, hg2, hg3, hg5, hg6, hg7⟩ := hrel
    have HG := Lib.hid (And.intro hg1 (And.intro hg2 (And.intro hg6 hg7)))
    clear hg1 hg2 hg6 hg7
    by_cases hlt : i < n
    · obtain ⟨x, ad, hx, rfl, _, hcx⟩ := HA.out.at_ HN.out hlt
      have HX := Lib.hid hx
      clear hx
      by_cases h1 : x ≤ la
      · have HF := Lib.hid (show r = false from by rw [← HR.out]; exact decide_eq_false (nms_not HX.out HG.out.2.2.1 HG.out.2.2.2 (.inl h1)))
        go_wp2_with fail
        go_ret
        exact ⟨by rw [HF.out]; rfl, rfl⟩
      · by_cases h2 : 65535 < x
        · have HF := Lib.hid (show r = false from by rw [← HR.out]; exact decide_eq_false (nms_not HX.out HG.out.2.2.1 HG.out.2.2.2 (.inr h2)))
          go_wp2_with fail
          go_ret
          exact ⟨by rw [HF.out]; rfl, rfl⟩
        · have HT := Lib.hid (show Nms (L.take (i + 1)) ∧ (∀ y ∈ L.take (i + 1), y ≤ x) from ⟨nms_take HG.out.1 HX.out HG.out.2.1 (by omega) (by omega) hg3, fun y hy => by
            rw [show L.take (i + 1) = L.take i ++ [x] from by rw [List.take_add_one, HX.out]; rfl] at hy
            rcases List.mem_append.1 hy with hy | hy
            · have := HG.out.2.1 y hy; omega
            · simp at hy; omega⟩)
          go_wp2_with fail
          go_roundw
          case rel => exact ⟨i + 1, x, by go_num, rfl, by omega, by first | trivial | rfl, HT.out.1, HT.out.2, by omega, by omega, fun h => absurd h (by omega), fun _ => HX.out⟩
          case measure => simp [intOf]; omega
    · obtain rfl : n = i := by omega
      have HF := Lib.hid (show r = true from by rw [← HR.out]; have h := HG.out.1; rw [show L.take n = L from List.take_of_length_le (by have := HN.out; omega)] at h; exact decide_eq_true h)
      go_wp2_with fail
      go_ret
      exact ⟨by rw [HF.out]; rfl, rfl⟩
/-- a row of numbers of the call's own, of one length -/
structure IwI (W : World) (gw n : Nat) (f : Nat → Int) (X : World) : Prop where
  bel : Below W.heap.size W X
  cs : ∃ cs : Array Value, X.heap[gw]? = some (.cells cs 3) ∧ cs.size = n ∧ ∀ k, k < n → cs[k]? = some (.int .i64 (f k))
  base : W.heap.size ≤ gw
section
variable {W X Y : World} {gw n : Nat} {f : Nat → Int}
theorem IwI.step (h : IwI W gw n f X) (hb : Below X.heap.size X Y) : IwI W gw n f Y := by
  obtain ⟨cs, h1, h2⟩ := h.cs
  exact ⟨h.bel.trans (hb.mono h.bel.size), ⟨cs, (hb.block _ (Array.getElem?_eq_some_iff.1 h1).1).trans h1, h2⟩, h.base⟩
theorem IwI.start {W : World} {cs : Array Value} (h1 : cs.size = n) (h2 : ∀ k, k < n → cs[k]? = some (.int .i64 0)) : IwI W W.heap.size n (fun _ => 0) (W.alloc (.cells cs 3)) :=
  ⟨below_new _, ⟨cs, World.alloc_heap_new W _, h1, h2⟩, Nat.le_refl _⟩
theorem IwI.cell (h : IwI W gw n f X) {k : Nat} (hk : k < n) : X.cell? ⟨gw, k, none⟩ = some (.int .i64 (f k)) := by
  obtain ⟨cs, h1, h2, h3⟩ := h.cs
  simp only [World.cell?, h1]
  exact h3 k hk
theorem IwI.froz (h : IwI W gw n f X) (k : Nat) : X.frozen? ⟨gw, k, none⟩ = false := by
  obtain ⟨cs, h1, _⟩ := h.cs
  exact frozen_cells h1 k
theorem IwI.lt (h : IwI W gw n f X) : gw < X.heap.size := by
  obtain ⟨cs, h1, _⟩ := h.cs
  exact (Array.getElem?_eq_some_iff.1 h1).1
theorem IwI.set (h : IwI W gw n f X) (k : Nat) (z : Int) : IwI W gw n (updP f k z) (X.setCell ⟨gw, k, none⟩ (.int .i64 z)) := by
  obtain ⟨cs, h1, h2, h3⟩ := h.cs
  refine ⟨h.bel.setCell h.base _, ⟨cs.setIfInBounds k (.int .i64 z), heap_setCell_same X gw k _ _ _ h1, by simp [h2], fun j hj => ?_⟩, h.base⟩
  unfold updP
  by_cases e : j = k
  · subst e
    rw [Array.getElem?_setIfInBounds_self_of_lt (by omega), if_pos rfl]
  · rw [Array.getElem?_setIfInBounds_ne (by omega), h3 j hj, if_neg e]
theorem IwI.sl (h : IwI W gw n f X) (hn : n ≤ 1000000) {L : List Int} (hL : L.length = n) (hf : ∀ k x, L[k]? = some x → f k = x) : InSl X X.heap.size (.slice (some ⟨gw, 0, none⟩) n n) L :=
  ⟨some ⟨gw, 0, none⟩, n, by rw [hL], by omega, by unfold maxLen; omega, fun i x hx => by
    have hi : i < n := by have := (List.getElem?_eq_some_iff.1 hx).1; omega
    refine ⟨⟨gw, 0, none⟩, rfl, h.lt, ?_⟩
    rw [add_zero_k, h.cell hi, hf i x hx]⟩
end
theorem wpList_make_ints {ops : Array Oper} {rest : List Oper} {o : Oper} {a : Act} {Q : Exit → Act → World → Prop} {w : World} (hg : o.guard = none) (l c : Operand) (hop : o.op = Op.makeSlice 22 l c) (n : Nat) (hl : a.eval l = .int .i64 (n : Int)) (hc : a.eval c = .int .i64 (n : Int)) (hn : n ≤ 1000000)
    (hK : ∀ cs : Array Value, cs.size = n → (∀ k, k < n → cs[k]? = some (.int .i64 0)) → wpList Tryd.prog ops Q rest (a.put o.dst (.slice (some ⟨w.heap.size, 0, none⟩) n n)) (w.alloc (.cells cs 3))) : wpList Tryd.prog ops Q (o :: rest) a w := by
  refine wpList_plain hg fun K hK' => ?_
  obtain ⟨i0, hi0, hz0, hz1, hz2⟩ := infoI
  have hrun := run_make (P := Tryd.prog) w 22 3 i0 (.int .i64 0) Tryd.underlying22 hi0 hz0 .i64 .i64 (n : Int) (n : Int) (by omega) (Int.le_refl _) (by rw [hz2]; omega) (by omega)
  simp only [Int.toNat_natCast, hz1, Nat.mul_one] at hrun
  unfold Oper.wp
  simp [execOp, hop, hl, hc, hrun, Result.andThen]
  refine hK' _ _ (hK _ (size_madeCells _ _) fun k hk => ?_)
  simp [madeCells, hk, Value.cells, Nat.mod_one]
theorem upd_same {α : Type} (f : Nat → α) (k : Nat) (v : α) : updP f k v k = v := if_pos rfl
theorem upd_other {α : Type} (f : Nat → α) {k j : Nat} (v : α) (h : j ≠ k) : updP f k v j = f j := if_neg h
set_option maxRecDepth 100000 in
set_option maxHeartbeats 4000000 in
theorem namesOf_any (u : Value) (L : List Rw) (w : World) (hu : IlSl w w.heap.size u L) (hn : L.length ≤ 100000) :
    Calls Tryd.prog 73 #[u] w fun e w' => (∃ v, e = .returned v ∧ InSl w' w'.heap.size v (L.map (·.nm)) ∧ ∀ g, v.ownBlock = some g → w.heap.size ≤ g) ∧ Below w.heap.size w w' := by
  have HU := Lib.hid hu
  obtain ⟨A, c, rfl⟩ := hu.form
  obtain ⟨n, h⟩ : ∃ n, L.length = n := ⟨_, rfl⟩
  have HN := Lib.hid h
  rw [h] at HU hn ⊢
  clear hu h
  go_enter Tryd.func73, Tryd.ntmps73
  go_wp2_with (refine wpList_make_ints rfl _ _ rfl n rfl rfl (by omega) ?_; intro cs hcs1 hcs2; have HI0 := Lib.hid (IwI.start (W := w) hcs1 hcs2); clear hcs1 hcs2)
  obtain ⟨gw, hgw⟩ : ∃ gw, w.heap.size = gw := ⟨_, rfl⟩
  have HGw := Lib.hid hgw
  rw [hgw] at HI0 ⊢
  clear hgw
  go_loopw [11] (fun iv wr => ∃ (i : Nat) (f : Nat → Int), iv = .int .i64 (i : Int) ∧ i ≤ n ∧ IwI w gw n f wr ∧ ∀ k r, k < i → L[k]? = some r → f k = r.nm) (fun iv _ => n - (intOf iv).toNat)
  case atStart => exact ⟨0, _, rfl, by omega, HI0.out, fun k r hk => absurd hk (by omega)⟩
  case round =>
    obtain ⟨i, f, rfl, hin, hI, hf⟩ := hrel
    have HI := Lib.hid hI
    have HF := Lib.hid hf
    clear hI hf
    by_cases hlt : i < n
    · obtain ⟨r, ad, Am, cm, hr, rfl, hY⟩ := HU.out.at_ hlt
      obtain ⟨⟨d0, d1⟩, _⟩ := hY wr HI.out.bel
      have HR := Lib.hid hr
      have hIb := HI.out.step (below_new (.cells #[.int .i64 r.nm, .slice Am r.may.length cm] 35))
      have HIb := Lib.hid hIb
      have hco := hIb.cell hlt
      have hfz := hIb.froz i
      clear hr hY hIb
      go_wp2_with fail
      go_roundw
      case rel => exact ⟨i + 1, _, by go_num, by omega, HIb.out.set i r.nm, fun k r' hk hr' => by
        by_cases e : k = i
        · subst e
          rw [HR.out] at hr'; injection hr' with hr'; subst hr'
          exact upd_same _ _ _
        · rw [upd_other _ _ e]; exact HF.out k r' (by omega) hr'⟩
      case measure => simp [intOf]; omega
    · obtain rfl : n = i := by omega
      have HSl := Lib.hid (HI.out.sl (by omega) (L := L.map (·.nm)) (by rw [List.length_map, HN.out]) (fun k x hx => by
        rw [List.getElem?_map] at hx
        cases hr : L[k]? with
        | none => rw [hr] at hx; cases hx
        | some r =>
          rw [hr] at hx
          simp only [Option.map_some, Option.some.injEq] at hx
          rw [HF.out k r (by have := (List.getElem?_eq_some_iff.1 hr).1; have := HN.out; omega) hr, hx]))
      go_wp2_with fail
      go_ret
      exact ⟨⟨_, rfl, HSl.out, fun g e => by
        have : gw = g := by simpa [Value.ownBlock] using e
        have := HI.out.base
        omega⟩, HI.out.bel⟩
set_option maxRecDepth 100000 in
set_option maxHeartbeats 8000000 in
theorem areRows_any (v : Value) (m : Mx) (w : World) (hv : MxV w v m) (hs : MSm m) (hc : chrF m.st = true) :
    Calls Tryd.prog 66 #[v] w fun e w' => e = .returned (.bool (rowsF m)) ∧ Below w.heap.size w w' := by
  obtain ⟨A1, c1, A2, c2, W0, rfl, hW0, hb0, hM, hS, hR, hX⟩ := mx_box hv
  have HB0 := Lib.hid hb0
  have HW0 := Lib.hid hW0
  have HX := Lib.hid hX
  have HRw := Lib.hid (hR W0 (Below.refl _ _))
  have HNm := Lib.hid (namesOf_any _ m.rows W0 (hR W0 (Below.refl _ _)) (by have := hs.2.1; omega))
  have HAs := Lib.hid (fun Y (h : Below W0.heap.size W0 Y) (u : Value) (l : List Int) (hu : InSl Y Y.heap.size u l) (hl : l.length ≤ 1000000) => areSets_any _ u m l Y (hM Y h) hc hu hl)
  have HLm := Lib.hid hs.2.2
  obtain ⟨n, hn⟩ : ∃ n, m.rows.length = n := ⟨_, rfl⟩
  obtain ⟨ns, hns⟩ : ∃ ns, m.st.length = ns := ⟨_, rfl⟩
  have HN := Lib.hid hn
  have hn1 : n ≤ 1000 := by have := hs.2.1; omega
  have HR := Lib.hid (show rowsF m = (decide (n ≤ 400) && (decide (Nms (m.rows.map (·.nm))) && m.rows.all fun r => setsF m.st r.may)) from by unfold rowsF; rw [hn])
  obtain ⟨NL, hNL⟩ : ∃ NL, m.rows.map (·.nm) = NL := ⟨_, rfl⟩
  have HNl := Lib.hid (show NL.length = n from by rw [← hNL, List.length_map, hn])
  rw [hNL] at HNm HR
  obtain ⟨r, hr⟩ : ∃ r, rowsF m = r := ⟨_, rfl⟩
  rw [hr] at HR ⊢
  rw [hn] at HX HW0 HRw HNm HAs ⊢
  rw [hns] at HX HW0 HAs ⊢
  obtain ⟨k0, k1⟩ := HX.out W0 (Below.refl _ _)
  clear hv hs hc hW0 hb0 hM hS hR hX hn hns hr hNL
  by_cases h4 : 400 < n
  · have hi : (400 : Int) < (n : Int) := by omega
    have HF := Lib.hid (show r = false from by rw [HR.out, decide_eq_false (by omega), Bool.false_and])
    clear h4
    go_enter Tryd.func66, Tryd.ntmps66
    go_wp2_with fail
    rw [HW0.out]
    go_wp2_with fail
    go_ret
    exact ⟨by rw [HF.out]; rfl, HB0.out⟩
  have hi : ¬ (400 : Int) < (n : Int) := by omega
  have HT0 := Lib.hid (show r = (decide (Nms NL) && m.rows.all fun r => setsF m.st r.may) from by rw [HR.out, decide_eq_true (by omega), Bool.true_and])
  clear h4 HR
  go_enter Tryd.func66, Tryd.ntmps66
  go_wp2_with fail
  rw [HW0.out]
  (with_reducible refine HNm.out.mono ?_)
  rintro e w1 ⟨⟨nv, rfl, hnv, _⟩, hb⟩
  have HB1 := Lib.hid hb
  have HAn := Lib.hid (areNames_any nv NL w1 hnv (by rw [HNl.out]; omega))
  obtain ⟨An, cn, rfl, _⟩ := hnv.form
  clear hnv hb k0 k1 HNm
  obtain ⟨k0, k1⟩ := HX.out w1 HB1.out
  go_wp2_with fail
  (with_reducible refine HAn.out.mono ?_)
  rintro e w2 ⟨rfl, rfl⟩
  by_cases hN : Nms NL
  case neg =>
    have HF := Lib.hid (show r = false from by rw [HT0.out, decide_eq_false hN, Bool.false_and])
    rw [decide_eq_false hN]
    clear hN
    go_wp2_with fail
    go_ret
    exact ⟨by rw [HF.out]; rfl, HB0.out.trans (HB1.out.mono HB0.out.size)⟩
  case pos =>
  have HT1 := Lib.hid (show r = m.rows.all fun r => setsF m.st r.may from by rw [HT0.out, decide_eq_true hN, Bool.true_and])
  rw [decide_eq_true hN]
  clear hN HT0 HAn
  go_wp2_with fail
  clear k0 k1
  go_loopw [19] (fun iv wr => ∃ i : Nat, iv = .int .i64 (i : Int) ∧ i ≤ n ∧ Below W0.heap.size W0 wr ∧ ((m.rows.take i).all fun r => setsF m.st r.may) = true) (fun iv _ => n - (intOf iv).toNat)
  case atStart => exact ⟨0, rfl, by omega, HB1.out, rfl⟩
  case round =>
    obtain ⟨i, rfl, hin, hb, hg⟩ := hrel
    have HG := Lib.hid hg
    have HB := Lib.hid hb
    clear hb hg
    obtain ⟨k0, k1⟩ := HX.out wr HB.out
    by_cases hlt : i < n
    · obtain ⟨q, ad, Am, cm, hq, rfl, hY⟩ := HRw.out.at_ hlt
      obtain ⟨⟨d0, d1⟩, _⟩ := hY wr HB.out
      have hbx := below_new (w := wr) (.cells #[.int .i64 q.nm, .slice Am q.may.length cm] 35)
      have HBx := Lib.hid (HB.out.trans (hbx.mono HB.out.size))
      obtain ⟨e0, e1⟩ := HX.out _ HBx.out
      have HQ := Lib.hid hq
      have HAs1 := Lib.hid (HAs.out _ HBx.out _ q.may (hY _ HBx.out).2 (by have := HLm.out q (List.mem_of_getElem? hq); omega))
      clear hq hY hbx
      go_wp2_with fail
      (with_reducible refine HAs1.out.mono ?_)
      rintro e w3 ⟨rfl, hb⟩
      have HB3 := Lib.hid (HBx.out.trans (hb.mono HBx.out.size))
      clear hb k0 k1 d0 d1 e0 e1 HAs1
      cases hg : setsF m.st q.may with
      | false =>
        have HF := Lib.hid (show r = false from by rw [HT1.out]; exact all_false HQ.out hg)
        clear hg
        go_wp2_with fail
        go_ret
        exact ⟨by rw [HF.out]; rfl, HB0.out.trans (HB3.out.mono HB0.out.size)⟩
      | true =>
        have HT := Lib.hid (show ((m.rows.take (i + 1)).all fun r => setsF m.st r.may) = true from by rw [all_take HQ.out, HG.out]; exact hg)
        clear hg
        go_wp2_with fail
        go_roundw
        case rel => exact ⟨i + 1, by go_num, by omega, HB3.out, HT.out⟩
        case measure => simp [intOf]; omega
    · obtain rfl : n = i := by omega
      have HF := Lib.hid (show r = true from by rw [HT1.out]; exact all_end HN.out HG.out)
      go_wp2_with fail
      go_ret
      exact ⟨by rw [HF.out]; rfl, HB0.out.trans (HB.out.mono HB0.out.size)⟩
set_option maxRecDepth 100000 in
set_option maxHeartbeats 8000000 in
theorem CheckMatrix_any (v : Value) (m : Mx) (w : World) (hv : MxV w v m) (hs : MSm m) :
    Calls Tryd.prog 21 #[v] w fun e w' => e = .returned (.int .i64 (cmE m)) ∧ Below w.heap.size w w' := by
  obtain ⟨A1, c1, A2, c2, W0, rfl, hW0, hb0, hM, hS, hR, hX⟩ := mx_box hv
  have HB0 := Lib.hid hb0
  have HW0 := Lib.hid hW0
  have HAc := Lib.hid (areCharacters_any _ m.st W0 (hS W0 (Below.refl _ _)) (by have := hs.1; omega))
  have HAr := Lib.hid (fun (h : chrF m.st = true) => areRows_any _ m W0 (hM W0 (Below.refl _ _)) hs h)
  obtain ⟨k0, k1⟩ := hX W0 (Below.refl _ _)
  have HE := Lib.hid (show cmE m = if (chrF m.st && rowsF m) = true then 0 else 30 from rfl)
  obtain ⟨er, her⟩ : ∃ er, cmE m = er := ⟨_, rfl⟩
  rw [her] at HE ⊢
  generalize m.st.length = ns at *
  generalize m.rows.length = n at *
  clear hv hs hW0 hb0 hM hS hR hX her
  cases hc : chrF m.st with
  | false =>
    rw [hc] at HAc HE
    have HF := Lib.hid (show er = 30 from by rw [HE.out]; simp)
    clear hc HE
    go_enter Tryd.func21, Tryd.ntmps21
    go_wp2_with fail
    rw [HW0.out]
    (with_reducible refine HAc.out.mono ?_)
    rintro e w1 ⟨rfl, rfl⟩
    go_wp2_with fail
    go_ret
    exact ⟨by rw [HF.out]; rfl, HB0.out⟩
  | true =>
    rw [hc] at HAc HE
    have HAr1 := Lib.hid (HAr.out hc)
    clear hc HAr
    cases hr : rowsF m with
    | false =>
      rw [hr] at HE HAr1
      have HF := Lib.hid (show er = 30 from by rw [HE.out]; simp)
      clear hr HE
      go_enter Tryd.func21, Tryd.ntmps21
      go_wp2_with fail
      rw [HW0.out]
      (with_reducible refine HAc.out.mono ?_)
      rintro e w1 ⟨rfl, rfl⟩
      go_wp2_with fail
      (with_reducible refine HAr1.out.mono ?_)
      rintro e w2 ⟨rfl, hb⟩
      have HB2 := Lib.hid (HB0.out.trans (hb.mono HB0.out.size))
      clear hb
      go_wp2_with fail
      go_ret
      exact ⟨by rw [HF.out]; rfl, HB2.out⟩
    | true =>
      rw [hr] at HE HAr1
      have HF := Lib.hid (show er = 0 from by rw [HE.out]; simp)
      clear hr HE
      go_enter Tryd.func21, Tryd.ntmps21
      go_wp2_with fail
      rw [HW0.out]
      (with_reducible refine HAc.out.mono ?_)
      rintro e w1 ⟨rfl, rfl⟩
      go_wp2_with fail
      (with_reducible refine HAr1.out.mono ?_)
      rintro e w2 ⟨rfl, hb⟩
      have HB2 := Lib.hid (HB0.out.trans (hb.mono HB0.out.size))
      clear hb
      go_wp2_with fail
      go_ret
      exact ⟨by rw [HF.out]; rfl, HB2.out⟩
end Go.Proofs.YthfegbcbpeedbaaDoor
