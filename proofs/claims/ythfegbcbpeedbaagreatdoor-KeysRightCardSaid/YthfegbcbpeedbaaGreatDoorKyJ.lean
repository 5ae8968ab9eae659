
/- Remain, Fits. -/
import Derived.Test.YthfegbcbpeedbaaGreatDoorKyB
namespace Go.Ky
open Go.Nm

structure Rw where
  nm : Int
  may : List Int
structure Mx where
  st : List Int
  rows : List Rw
def full (n : Int) : Int := 2 ^ n.toNat - 1
def setsF (st l : List Int) : Bool := decide (l.length = st.length) && (st.zip l).all fun p => decide (1 ≤ p.2 ∧ p.2 ≤ full p.1)
def chrF (st : List Int) : Bool := decide (0 < st.length ∧ st.length ≤ 64) && st.all fun n => decide (2 ≤ n ∧ n ≤ 16)
def rowsF (m : Mx) : Bool := decide (m.rows.length ≤ 400) && (decide (Nms (m.rows.map (·.nm))) && m.rows.all fun r => setsF m.st r.may)
def mxF (m : Mx) : Bool := chrF m.st && rowsF m
def cmE (m : Mx) : Int := if mxF m = true then 0 else 30
theorem all_take {α : Type} {g : α → Bool} {a : List α} {i : Nat} {x : α} (hx : a[i]? = some x) : (a.take (i + 1)).all g = ((a.take i).all g && g x) := by
  rw [show a.take (i + 1) = a.take i ++ [x] from by rw [List.take_add_one, hx]; rfl, List.all_append]
  simp
theorem all_false {α : Type} {g : α → Bool} {a : List α} {i : Nat} {x : α} (hx : a[i]? = some x) (h : g x = false) : a.all g = false := by
  rw [List.all_eq_false]
  exact ⟨x, List.mem_of_getElem? hx, by simp [h]⟩
theorem all_end {α : Type} {g : α → Bool} {a : List α} {n : Nat} (hn : a.length = n) (h : (a.take n).all g = true) : a.all g = true := by
  rwa [show a.take n = a from List.take_of_length_le (by omega)] at h
theorem zip_get {α β : Type} {a : List α} {b : List β} {i : Nat} {x : α} {y : β} (h1 : a[i]? = some x) (h2 : b[i]? = some y) : (a.zip b)[i]? = some (x, y) := List.getElem?_zip_eq_some.2 ⟨h1, h2⟩
theorem full_nat (k : Nat) : full (k : Int) = ((2 ^ k : Nat) : Int) - 1 := by unfold full; simp
theorem pow16 {k : Nat} (h : k ≤ 16) : 2 ^ k ≤ 65536 ∧ 1 ≤ 2 ^ k := ⟨Nat.le_trans (Nat.pow_le_pow_right (by omega) h) (by decide), Nat.one_le_two_pow⟩
end Go.Ky
namespace Go.Proofs.YthfegbcbpeedbaaGreatDoor
open Go.RowKit Go.Nm Go.Ky

def IlA (w : World) (B : Nat) (A : Option Addr) (L : List Rw) : Prop :=
  ∀ (i : Nat) (c : Rw), L[i]? = some c → ∃ ad v, A = some ad ∧ ad.block < B ∧ w.cell? (ad.add (i * 2)) = some (.int .i64 c.nm) ∧ w.cell? ⟨(ad.add (i * 2)).block, (ad.add (i * 2)).off + 1, none⟩ = some v ∧ InSl w B v c.may
def IlSl (w : World) (B : Nat) (v : Value) (L : List Rw) : Prop := ∃ A c, v = .slice A L.length c ∧ IlA w B A L
section
variable {w w' : World} {B B' : Nat} {A : Option Addr} {L : List Rw} {v : Value}
theorem IlA.below (h : IlA w B A L) (hb : Below B w w') : IlA w' B A L := fun i c hc => by
  obtain ⟨ad, v, e, h1, h2, h3, h4⟩ := h i c hc
  exact ⟨ad, v, e, h1, (hb.cell (by rw [add_block]; exact h1)).trans h2, (hb.cell (p := ⟨(ad.add (i * 2)).block, _, none⟩) (by show (ad.add (i * 2)).block < B; rw [add_block]; exact h1)).trans h3, h4.below hb⟩
theorem IlA.mono (h : IlA w B A L) (hB : B ≤ B') : IlA w B' A L := fun i c hc => by
  obtain ⟨ad, v, e, h1, h2, h3, h4⟩ := h i c hc
  exact ⟨ad, v, e, by omega, h2, h3, h4.mono hB⟩
theorem IlSl.below (h : IlSl w B v L) (hb : Below B w w') : IlSl w' B v L := by
  obtain ⟨A, c, e, h⟩ := h; exact ⟨A, c, e, h.below hb⟩
theorem IlSl.mono (h : IlSl w B v L) (hB : B ≤ B') : IlSl w B' v L := by
  obtain ⟨A, c, e, h⟩ := h; exact ⟨A, c, e, h.mono hB⟩
theorem IlSl.step (h : IlSl w w.heap.size v L) (hb : Below w.heap.size w w') : IlSl w' w'.heap.size v L := (h.below hb).mono hb.size
theorem IlSl.form (h : IlSl w B v L) : ∃ A c, v = .slice A L.length c := by
  obtain ⟨A, c, e, _⟩ := h; exact ⟨A, c, e⟩
theorem IlSl.nil (w : World) (B : Nat) : IlSl w B (.slice none 0 0) [] := ⟨none, 0, rfl, fun i c h => by simp at h⟩
/-- a row, at every later world -/
theorem IlSl.at_ {n c : Nat} (h : IlSl w w.heap.size (.slice A n c) L) {i : Nat} (hi : i < n) : ∃ r ad Am cm, L[i]? = some r ∧ A = some ad ∧ ∀ Y, Below w.heap.size w Y → (Y.cell? (ad.add (i * 2)) = some (.int .i64 r.nm) ∧ Y.cell? ⟨(ad.add (i * 2)).block, (ad.add (i * 2)).off + 1, none⟩ = some (.slice Am r.may.length cm)) ∧ InSl Y Y.heap.size (.slice Am r.may.length cm) r.may := by
  obtain ⟨A', c', e, h2⟩ := h
  injection e with e1 e2 e3
  subst e1; subst e3
  have hi' : i < L.length := by omega
  have hr : L[i]? = some L[i] := List.getElem?_eq_getElem hi'
  obtain ⟨ad, v, e, h3, h4, h5, h6⟩ := h2 i _ hr
  obtain ⟨Am, cm, rfl, _⟩ := h6.form
  refine ⟨_, ad, Am, cm, hr, e, fun Y hY => ⟨⟨(hY.cell (by rw [add_block]; exact h3)).trans h4, (hY.cell (p := ⟨(ad.add (i * 2)).block, _, none⟩) (by show (ad.add (i * 2)).block < w.heap.size; rw [add_block]; exact h3)).trans h5⟩, h6.step hY⟩⟩
end
/-- v is a matrix -/
def MxV (w : World) (v : Value) (m : Mx) : Prop := ∃ v1 v2, v = .agg #[v1, v2] ∧ InSl w w.heap.size v1 m.st ∧ IlSl w w.heap.size v2 m.rows
def MSm (m : Mx) : Prop := m.st.length ≤ 1000 ∧ m.rows.length ≤ 1000 ∧ ∀ r ∈ m.rows, r.may.length ≤ 1000
theorem MxV.step {w w' : World} {v : Value} {m : Mx} (h : MxV w v m) (hb : Below w.heap.size w w') : MxV w' v m := by
  obtain ⟨v1, v2, e, h1, h2⟩ := h
  exact ⟨v1, v2, e, h1.step hb, h2.step hb⟩
theorem mx_box {w : World} {v : Value} {m : Mx} (hv : MxV w v m) : ∃ (A1 : Option Addr) (c1 : Nat) (A2 : Option Addr) (c2 : Nat) (W0 : World), v = .agg #[.slice A1 m.st.length c1, .slice A2 m.rows.length c2] ∧
    w.alloc (.cells #[.slice A1 m.st.length c1, .slice A2 m.rows.length c2] 25) = W0 ∧ Below w.heap.size w W0 ∧ (∀ Y, Below W0.heap.size W0 Y → MxV Y (.agg #[.slice A1 m.st.length c1, .slice A2 m.rows.length c2]) m) ∧
    (∀ Y, Below W0.heap.size W0 Y → InSl Y Y.heap.size (.slice A1 m.st.length c1) m.st) ∧ (∀ Y, Below W0.heap.size W0 Y → IlSl Y Y.heap.size (.slice A2 m.rows.length c2) m.rows) ∧
    ∀ Y, Below W0.heap.size W0 Y → Y.cell? ⟨w.heap.size, 0, none⟩ = some (.slice A1 m.st.length c1) ∧ Y.cell? ⟨w.heap.size, 1, none⟩ = some (.slice A2 m.rows.length c2) := by
  have hv0 := hv
  obtain ⟨v1, v2, rfl, h1, h2⟩ := hv
  obtain ⟨A1, c1, rfl, _⟩ := h1.form
  obtain ⟨A2, c2, rfl⟩ := h2.form
  have hb := below_new (w := w) (.cells #[.slice A1 m.st.length c1, .slice A2 m.rows.length c2] 25)
  have hn := World.alloc_heap_new w (.cells #[.slice A1 m.st.length c1, .slice A2 m.rows.length c2] 25)
  exact ⟨A1, c1, A2, c2, _, rfl, rfl, hb, fun Y h => (hv0.step hb).step h, fun Y h => (h1.step hb).step h, fun Y h => (h2.step hb).step h, fun Y h => cells_two ((h.block _ (Array.getElem?_eq_some_iff.1 hn).1).trans hn)⟩
set_option maxRecDepth 100000 in
set_option maxHeartbeats 4000000 in
theorem areCharacters_any (u : Value) (L : List Int) (w : World) (hu : InSl w w.heap.size u L) (hn : L.length ≤ 1000000) :
    Calls Tryz.prog 83 #[u] w fun e w' => e = .returned (.bool (chrF L)) ∧ w = w' := by
  obtain ⟨A, c, rfl, _⟩ := hu.form
  have HA := Lib.hid (show InA w w.heap.size A L from by obtain ⟨_, _, e, _, _, h⟩ := hu; cases e; exact h)
  obtain ⟨n, h⟩ : ∃ n, L.length = n := ⟨_, rfl⟩
  have HN := Lib.hid h
  have HR := Lib.hid (show chrF L = (decide (0 < n ∧ n ≤ 64) && L.all fun n => decide (2 ≤ n ∧ n ≤ 16)) from by unfold chrF; rw [h])
  obtain ⟨r, hr⟩ : ∃ r, chrF L = r := ⟨_, rfl⟩
  rw [hr] at HR ⊢
  rw [h] at hn ⊢
  clear hu h hr
  go_enter Tryz.func83, Tryz.ntmps83
  go_wp2_with fail
  go_loopw [7] (fun iv wr => ∃ i : Nat, iv = .int .i64 (i : Int) ∧ i ≤ n ∧ w = wr ∧ ((L.take i).all fun n => decide (2 ≤ n ∧ n ≤ 16)) = true) (fun iv _ => n - (intOf iv).toNat)
  case atStart => exact ⟨0, rfl, by omega, rfl, rfl⟩
  case round =>
    obtain ⟨i, rfl, hin, rfl, hg⟩ := hrel
    have HG := Lib.hid hg
    clear hg
    by_cases hlt : i < n
    · obtain ⟨x, ad, hx, rfl, _, hcx⟩ := HA.out.at_ HN.out hlt
      have HX := Lib.hid hx
      clear hx
      by_cases h1 : x < 2
      · have HF := Lib.hid (show r = false from by rw [HR.out, all_false HX.out (decide_eq_false (by omega)), Bool.and_false])
        go_wp2_with fail
        go_ret
        exact ⟨by rw [HF.out]; rfl, rfl⟩
      · by_cases h2 : 16 < x
        · have HF := Lib.hid (show r = false from by rw [HR.out, all_false HX.out (decide_eq_false (by omega)), Bool.and_false])
          go_wp2_with fail
          go_ret
          exact ⟨by rw [HF.out]; rfl, rfl⟩
        · have HT := Lib.hid (show ((L.take (i + 1)).all fun n => decide (2 ≤ n ∧ n ≤ 16)) = true from by rw [all_take HX.out, HG.out]; exact decide_eq_true ⟨by omega, by omega⟩)
          go_wp2_with fail
          go_roundw
          case rel => exact ⟨i + 1, by go_num, by omega, by first | trivial | rfl, HT.out⟩
          case measure => simp [intOf]; omega
    · obtain rfl : n = i := by omega
      have HT := Lib.hid (show r = decide (0 < n ∧ n ≤ 64) from by rw [HR.out, all_end HN.out HG.out, Bool.and_true])
      by_cases h1 : 0 < n
      · have h1i : (0 : Int) < (n : Int) := by omega
        by_cases h2 : n ≤ 64
        · have h2i : (n : Int) ≤ 64 := by omega
          have HF := Lib.hid (show r = true from by rw [HT.out]; exact decide_eq_true ⟨h1, h2⟩)
          clear h1 h2 HT
          go_wp2_with fail
          go_ret
          exact ⟨by rw [HF.out]; rfl, rfl⟩
        · have h2i : ¬ (n : Int) ≤ 64 := by omega
          have HF := Lib.hid (show r = false from by rw [HT.out]; exact decide_eq_false (by omega))
          clear h1 h2 HT
          go_wp2_with fail
          go_ret
          exact ⟨by rw [HF.out]; rfl, rfl⟩
      · have h1i : ¬ (0 : Int) < (n : Int) := by omega
        have HF := Lib.hid (show r = false from by rw [HT.out]; exact decide_eq_false (by omega))
        clear h1 HT
        go_wp2_with fail
        go_ret
        exact ⟨by rw [HF.out]; rfl, rfl⟩
set_option maxRecDepth 100000 in
set_option maxHeartbeats 4000000 in
theorem fullSet_any (k : Nat) (w : World) (hk : k ≤ 16) :
    Calls Tryz.prog 79 #[.int .i64 (k : Int)] w fun e w' => e = .returned (.int .i64 (full (k : Int))) ∧ w = w' := by
  rw [full_nat]
  obtain ⟨p1, p2⟩ := pow16 hk
  have HP := Lib.hid (show IntKind.i64.wrap (2 ^ k) = ((2 ^ k : Nat) : Int) from by rw [show ((2 : Int) ^ k) = ((2 ^ k : Nat) : Int) from by simp, IntKind.wrap_i64]; omega)
  have hki : (k : Int) ≤ 16 := by omega
  obtain ⟨m, hm⟩ : ∃ m, 2 ^ k = m := ⟨_, rfl⟩
  have hw := HP.out
  rw [hm] at hw p1 p2 ⊢
  clear HP hm
  go_enter Tryz.func79, Tryz.ntmps79
  go_wp2_with fail
  go_ret
  exact ⟨rfl, rfl⟩
end Go.Proofs.YthfegbcbpeedbaaGreatDoor
namespace Go.Proofs.YthfegbcbpeedbaaGreatDoor
open Go.RowKit Go.Nm Go.Ky

set_option maxRecDepth 100000 in
set_option maxHeartbeats 4000000 in
theorem areSets_any (v u : Value) (m : Mx) (l : List Int) (w : World) (hv : MxV w v m) (hc : chrF m.st = true) (hu : InSl w w.heap.size u l) (hl : l.length ≤ 1000000) :
    Calls Tryz.prog 72 #[v, u] w fun e w' => e = .returned (.bool (setsF m.st l)) ∧ Below w.heap.size w w' := by
  obtain ⟨A1, c1, A2, c2, W0, rfl, hW0, hb0, hM, hS, hR, hX⟩ := mx_box hv
  have HB0 := Lib.hid hb0
  have HW0 := Lib.hid hW0
  have hu0 := hu.step hb0
  obtain ⟨Au, cu, rfl, _⟩ := hu.form
  have HA := Lib.hid (show InA W0 W0.heap.size Au l from by obtain ⟨_, _, e, _, _, h⟩ := hu0; cases e; exact h)
  have HS := Lib.hid (show InA W0 W0.heap.size A1 m.st from by obtain ⟨_, _, e, _, _, h⟩ := hS W0 (Below.refl _ _); cases e; exact h)
  obtain ⟨k0, k1⟩ := hX W0 (Below.refl _ _)
  obtain ⟨n, hn⟩ : ∃ n, l.length = n := ⟨_, rfl⟩
  obtain ⟨ns, hns⟩ : ∃ ns, m.st.length = ns := ⟨_, rfl⟩
  have HN := Lib.hid hn
  have HNs := Lib.hid hns
  have HC := Lib.hid (show ∀ x ∈ m.st, 2 ≤ x ∧ x ≤ 16 from fun x hx => by
    unfold chrF at hc
    rw [Bool.and_eq_true] at hc
    exact of_decide_eq_true ((List.all_eq_true.1 hc.2) x hx))
  have HR := Lib.hid (show setsF m.st l = (decide (n = ns) && (m.st.zip l).all fun p => decide (1 ≤ p.2 ∧ p.2 ≤ full p.1)) from by unfold setsF; rw [hn, hns])
  obtain ⟨r, hr⟩ : ∃ r, setsF m.st l = r := ⟨_, rfl⟩
  rw [hr] at HR ⊢
  rw [hn] at hl ⊢
  rw [hns] at k0 HW0 ⊢
  clear hv hc hu hu0 hW0 hb0 hM hS hR hX hn hns hr
  by_cases h1 : n = ns
  case neg =>
    have hq : ((n : Int) != (ns : Int)) = true := by simp; omega
    have HF := Lib.hid (show r = false from by rw [HR.out, decide_eq_false h1, Bool.false_and])
    clear h1
    go_enter Tryz.func72, Tryz.ntmps72
    go_wp2_with fail
    rw [HW0.out]
    go_wp2_with fail
    go_ret
    exact ⟨by rw [HF.out]; rfl, HB0.out⟩
  case pos =>
  subst h1
  have hq : ((n : Int) != (n : Int)) = false := by simp
  have HT0 := Lib.hid (show r = (m.st.zip l).all fun p => decide (1 ≤ p.2 ∧ p.2 ≤ full p.1) from by rw [HR.out]; simp)
  clear HR
  obtain ⟨Z, hZ⟩ : ∃ Z, m.st.zip l = Z := ⟨_, rfl⟩
  have HZ := Lib.hid hZ
  rw [hZ] at HT0
  have HZl := Lib.hid (show Z.length = n from by rw [← hZ, List.length_zip, HN.out, HNs.out]; omega)
  clear hZ
  go_enter Tryz.func72, Tryz.ntmps72
  go_wp2_with fail
  rw [HW0.out]
  go_wp2_with fail
  go_loopw [15] (fun iv wr => ∃ i : Nat, iv = .int .i64 (i : Int) ∧ i ≤ n ∧ W0 = wr ∧ ((Z.take i).all fun p => decide (1 ≤ p.2 ∧ p.2 ≤ full p.1)) = true) (fun iv _ => n - (intOf iv).toNat)
  case atStart => exact ⟨0, rfl, by omega, rfl, rfl⟩
  case round =>
    obtain ⟨i, rfl, hin, rfl, hg⟩ := hrel
    have HG := Lib.hid hg
    clear hg
    by_cases hlt : i < n
    · obtain ⟨x, ad, hx, rfl, _, hcx⟩ := HA.out.at_ HN.out hlt
      obtain ⟨q, ad1, hq1, rfl, _, hcq⟩ := HS.out.at_ HNs.out hlt
      have HZi := Lib.hid (show Z[i]? = some (q, x) from by rw [← HZ.out]; exact zip_get hq1 hx)
      obtain ⟨hq2, hq3⟩ := HC.out q (List.mem_of_getElem? hq1)
      obtain ⟨k, rfl⟩ : ∃ k : Nat, q = (k : Int) := ⟨q.toNat, by omega⟩
      have HFu := Lib.hid (fullSet_any k W0 (by omega))
      obtain ⟨f, hf⟩ : ∃ f, full (k : Int) = f := ⟨_, rfl⟩
      have HFf := Lib.hid hf
      rw [hf] at HFu
      clear hx hq1 hf hq
      by_cases h1 : x < 1
      · have HF := Lib.hid (show r = false from by rw [HT0.out, all_false HZi.out (decide_eq_false (by simp only; omega))])
        go_wp2_with fail
        go_ret
        exact ⟨by rw [HF.out]; rfl, HB0.out⟩
      · go_wp2_with fail
        (with_reducible refine HFu.out.mono ?_)
        rintro e w2 ⟨rfl, rfl⟩
        by_cases h2 : f < x
        · have HF := Lib.hid (show r = false from by rw [HT0.out, all_false HZi.out (decide_eq_false (by simp only [HFf.out]; omega))])
          go_wp2_with fail
          go_ret
          exact ⟨by rw [HF.out]; rfl, HB0.out⟩
        · have HT := Lib.hid (show ((Z.take (i + 1)).all fun p => decide (1 ≤ p.2 ∧ p.2 ≤ full p.1)) = true from by rw [all_take HZi.out, HG.out]; exact decide_eq_true (by simp only [HFf.out]; omega))
          go_wp2_with fail
          go_roundw
          case rel => exact ⟨i + 1, by go_num, by omega, by first | trivial | rfl, HT.out⟩
          case measure => simp [intOf]; omega
    · obtain rfl : n = i := by omega
      have HF := Lib.hid (show r = true from by rw [HT0.out, all_end HZl.out HG.out])
      go_wp2_with fail
      go_ret
      exact ⟨by rw [HF.out]; rfl, HB0.out⟩
theorem nms_take {L : List Int} {i : Nat} {x la : Int} (h : Nms (L.take i)) (hx : L[i]? = some x) (h1 : ∀ y ∈ L.take i, y ≤ la) (h2 : la < x) (h3 : x ≤ 65535) (h0 : 0 ≤ la) : Nms (L.take (i + 1)) := by
  rw [show L.take (i + 1) = L.take i ++ [x] from by rw [List.take_add_one, hx]; rfl]
  refine ⟨List.pairwise_append.2 ⟨h.1, by simp, fun a ha c hc => by simp at hc; subst hc; have := h1 a ha; omega⟩, fun y hy => ?_⟩
  rcases List.mem_append.1 hy with hy | hy
  · exact h.2 y hy
  · simp at hy; subst hy; omega
theorem nms_not {L : List Int} {i : Nat} {x la : Int} (hx : L[i]? = some x) (h0 : i = 0 → la = 0) (h1 : 0 < i → L[i - 1]? = some la) (h : x ≤ la ∨ 65535 < x) : ¬ Nms L := fun hn => by
  have hw := hn.2 x (List.mem_of_getElem? hx)
  rcases h with h | h
  · by_cases e : i = 0
    · have := h0 e; omega
    · have h2 := h1 (by omega)
      have h3 := next_of_inc hn.1 h2 (by rw [show i - 1 + 1 = i by omega]; exact hx)
      omega
  · omega
set_option maxRecDepth 100000 in
set_option maxHeartbeats 4000000 in
theorem areNames_any (u : Value) (L : List Int) (w : World) (hu : InSl w w.heap.size u L) (hn : L.length ≤ 1000000) :
    Calls Tryz.prog 85 #[u] w fun e w' => e = .returned (.bool (decide (Nms L))) ∧ w = w' := by
  obtain ⟨A, c, rfl, _⟩ := hu.form
  have HA := Lib.hid (show InA w w.heap.size A L from by obtain ⟨_, _, e, _, _, h⟩ := hu; cases e; exact h)
  obtain ⟨n, h⟩ : ∃ n, L.length = n := ⟨_, rfl⟩
  have HN := Lib.hid h
  obtain ⟨r, hr⟩ : ∃ r, decide (Nms L) = r := ⟨_, rfl⟩
  have HR := Lib.hid hr
  rw [hr]
  rw [h] at hn ⊢
  clear hu h hr
  go_enter Tryz.func85, Tryz.ntmps85
  go_wp2_with fail
  go_loopw [3, 8] (fun lv iv wr => ∃ (i : Nat) (la : Int), iv = .int .i64 (i : Int) ∧ lv = .int .i64 la ∧ i ≤ n ∧ w = wr ∧ Nms (L.take i) ∧ (∀ y ∈ L.take i, y ≤ la) ∧ 0 ≤ la ∧ la ≤ 65535 ∧ (i = 0 → la = 0) ∧ (0 < i → L[i - 1]? = some la)) (fun _ iv _ => n - (intOf iv).toNat)
  case atStart => exact ⟨0, 0, rfl, rfl, by omega, rfl, ⟨List.Pairwise.nil, fun x hx => nomatch hx⟩, by simp, by omega, by omega, fun _ => rfl, fun h => absurd h (by omega)⟩
  case round =>
    obtain ⟨i, la, rfl, rfl, hin, rfl, hg1, hg2, hg3, hg5, hg6, hg7⟩ := hrel
    have HG := Lib.hid (And.intro hg1 (And.intro hg2 (And.intro hg6 hg7)))
    clear hg1 hg2 hg6 hg7
    by_cases hlt : i < n
    · obtain ⟨x, ad, hx, rfl, _, hcx⟩ := HA.out.at_ HN.out hlt
      have HX := Lib.hid hx
      clear hx
      by_cases h1 : x ≤ la
      · have HF := Lib.hid (show r = false from by rw [← HR.out]; exact decide_eq_false (nms_not HX.out HG.out.2.2.1 HG.out.2.2.2 (.inl h1)))
        go_wp2_with fail
        go_ret
        exact ⟨by rw [HF.out]; rfl, rfl⟩
      · by_cases h2 : 65535 < x
        · have HF := Lib.hid (show r = false from by rw [← HR.out]; exact decide_eq_false (nms_not HX.out HG.out.2.2.1 HG.out.2.2.2 (.inr h2)))
          go_wp2_with fail
          go_ret
          exact ⟨by rw [HF.out]; rfl, rfl⟩
        · have HT := Lib.hid (show Nms (L.take (i + 1)) ∧ (∀ y ∈ L.take (i + 1), y ≤ x) from ⟨nms_take HG.out.1 HX.out HG.out.2.1 (by omega) (by omega) hg3, fun y hy => by
            rw [show L.take (i + 1) = L.take i ++ [x] from by rw [List.take_add_one, HX.out]; rfl] at hy
            rcases List.mem_append.1 hy with hy | hy
            · have := HG.out.2.1 y hy; omega
            · simp at hy; omega⟩)
          go_wp2_with fail
          go_roundw
          case rel => exact ⟨i + 1, x, by go_num, rfl, by omega, by first | trivial | rfl, HT.out.1, HT.out.2, by omega, by omega, fun h => absurd h (by omega), fun _ => HX.out⟩
          case measure => simp [intOf]; omega
    · obtain rfl : n = i := by omega
      have HF := Lib.hid (show r = true from by rw [← HR.out]; have h := HG.out.1; rw [show L.take n = L from List.take_of_length_le (by have := HN.out; omega)] at h; exact decide_eq_true h)
      go_wp2_with fail
      go_ret
      exact ⟨by rw [HF.out]; rfl, rfl⟩
/-- a row of numbers of the call's own, of one length -/
structure IwI (W : World) (gw n : Nat) (f : Nat → Int) (X : World) : Prop where
  bel : Below W.heap.size W X
  cs : ∃ cs : Array Value, X.heap[gw]? = some (.cells cs 3) ∧ cs.size = n ∧ ∀ k, k < n → cs[k]? = some (.int .i64 (f k))
  base : W.heap.size ≤ gw
section
variable {W X Y : World} {gw n : Nat} {f : Nat → Int}
theorem IwI.step (h : IwI W gw n f X) (hb : Below X.heap.size X Y) : IwI W gw n f Y := by
  obtain ⟨cs, h1, h2⟩ := h.cs
  exact ⟨h.bel.trans (hb.mono h.bel.size), ⟨cs, (hb.block _ (Array.getElem?_eq_some_iff.1 h1).1).trans h1, h2⟩, h.base⟩
theorem IwI.start {W : World} {cs : Array Value} (h1 : cs.size = n) (h2 : ∀ k, k < n → cs[k]? = some (.int .i64 0)) : IwI W W.heap.size n (fun _ => 0) (W.alloc (.cells cs 3)) :=
  ⟨below_new _, ⟨cs, World.alloc_heap_new W _, h1, h2⟩, Nat.le_refl _⟩
theorem IwI.cell (h : IwI W gw n f X) {k : Nat} (hk : k < n) : X.cell? ⟨gw, k, none⟩ = some (.int .i64 (f k)) := by
  obtain ⟨cs, h1, h2, h3⟩ := h.cs
  simp only [World.cell?, h1]
  exact h3 k hk
theorem IwI.froz (h : IwI W gw n f X) (k : Nat) : X.frozen? ⟨gw, k, none⟩ = false := by
  obtain ⟨cs, h1, _⟩ := h.cs
  exact frozen_cells h1 k
theorem IwI.lt (h : IwI W gw n f X) : gw < X.heap.size := by
  obtain ⟨cs, h1, _⟩ := h.cs
  exact (Array.getElem?_eq_some_iff.1 h1).1
theorem IwI.set (h : IwI W gw n f X) (k : Nat) (z : Int) : IwI W gw n (updP f k z) (X.setCell ⟨gw, k, none⟩ (.int .i64 z)) := by
  obtain ⟨cs, h1, h2, h3⟩ := h.cs
  refine ⟨h.bel.setCell h.base _, ⟨cs.setIfInBounds k (.int .i64 z), heap_setCell_same X gw k _ _ _ h1, by simp [h2], fun j hj => ?_⟩, h.base⟩
  unfold updP
  by_cases e : j = k
  · subst e
    rw [Array.getElem?_setIfInBounds_self_of_lt (by omega), if_pos rfl]
  · rw [Array.getElem?_setIfInBounds_ne (by omega), h3 j hj, if_neg e]
theorem IwI.sl (h : IwI W gw n f X) (hn : n ≤ 1000000) {L : List Int} (hL : L.length = n) (hf : ∀ k x, L[k]? = some x → f k = x) : InSl X X.heap.size (.slice (some ⟨gw, 0, none⟩) n n) L :=
  ⟨some ⟨gw, 0, none⟩, n, by rw [hL], by omega, by unfold maxLen; omega, fun i x hx => by
    have hi : i < n := by have := (List.getElem?_eq_some_iff.1 hx).1; omega
    refine ⟨⟨gw, 0, none⟩, rfl, h.lt, ?_⟩
    rw [add_zero_k, h.cell hi, hf i x hx]⟩
end
theorem wpList_make_ints {ops : Array Oper} {rest : List Oper} {o : Oper} {a : Act} {Q : Exit → Act → World → Prop} {w : World} (hg : o.guard = none) (l c : Operand) (hop : o.op = Op.makeSlice 22 l c) (n : Nat) (hl : a.eval l = .int .i64 (n : Int)) (hc : a.eval c = .int .i64 (n : Int)) (hn : n ≤ 1000000)
    (hK : ∀ cs : Array Value, cs.size = n → (∀ k, k < n → cs[k]? = some (.int .i64 0)) → wpList Tryz.prog ops Q rest (a.put o.dst (.slice (some ⟨w.heap.size, 0, none⟩) n n)) (w.alloc (.cells cs 3))) : wpList Tryz.prog ops Q (o :: rest) a w := by
  refine wpList_plain hg fun K hK' => ?_
  obtain ⟨i0, hi0, hz0, hz1, hz2⟩ := infoI
  have hrun := run_make (P := Tryz.prog) w 22 3 i0 (.int .i64 0) Tryz.underlying22 hi0 hz0 .i64 .i64 (n : Int) (n : Int) (by omega) (Int.le_refl _) (by rw [hz2]; omega) (by omega)
  simp only [Int.toNat_natCast, hz1, Nat.mul_one] at hrun
  unfold Oper.wp
  simp [execOp, hop, hl, hc, hrun, Result.andThen]
  refine hK' _ _ (hK _ (size_madeCells _ _) fun k hk => ?_)
  simp [madeCells, hk, Value.cells, Nat.mod_one]
theorem upd_same {α : Type} (f : Nat → α) (k : Nat) (v : α) : updP f k v k = v := if_pos rfl
theorem upd_other {α : Type} (f : Nat → α) {k j : Nat} (v : α) (h : j ≠ k) : updP f k v j = f j := if_neg h
set_option maxRecDepth 100000 in
set_option maxHeartbeats 4000000 in
theorem namesOf_any (u : Value) (L : List Rw) (w : World) (hu : IlSl w w.heap.size u L) (hn : L.length ≤ 100000) :
    Calls Tryz.prog 40 #[u] w fun e w' => (∃ v, e = .returned v ∧ InSl w' w'.heap.size v (L.map (·.nm)) ∧ ∀ g, v.ownBlock = some g → w.heap.size ≤ g) ∧ Below w.heap.size w w' := by
  have HU := Lib.hid hu
  obtain ⟨A, c, rfl⟩ := hu.form
  obtain ⟨n, h⟩ : ∃ n, L.length = n := ⟨_, rfl⟩
  have HN := Lib.hid h
  rw [h] at HU hn ⊢
  clear hu h
  go_enter Tryz.func40, Tryz.ntmps40
  go_wp2_with (refine wpList_make_ints rfl _ _ rfl n rfl rfl (by omega) ?_; intro cs hcs1 hcs2; have HI0 := Lib.hid (IwI.start (W := w) hcs1 hcs2); clear hcs1 hcs2)
  obtain ⟨gw, hgw⟩ : ∃ gw, w.heap.size = gw := ⟨_, rfl⟩
  have HGw := Lib.hid hgw
  rw [hgw] at HI0 ⊢
  clear hgw
  go_loopw [11] (fun iv wr => ∃ (i : Nat) (f : Nat → Int), iv = .int .i64 (i : Int) ∧ i ≤ n ∧ IwI w gw n f wr ∧ ∀ k r, k < i → L[k]? = some r → f k = r.nm) (fun iv _ => n - (intOf iv).toNat)
  case atStart => exact ⟨0, _, rfl, by omega, HI0.out, fun k r hk => absurd hk (by omega)⟩
  case round =>
    obtain ⟨i, f, rfl, hin, hI, hf⟩ := hrel
    have HI := Lib.hid hI
    have HF := Lib.hid hf
    clear hI hf
    by_cases hlt : i < n
    · obtain ⟨r, ad, Am, cm, hr, rfl, hY⟩ := HU.out.at_ hlt
      obtain ⟨⟨d0, d1⟩, _⟩ := hY wr HI.out.bel
      have HR := Lib.hid hr
      have hIb := HI.out.step (below_new (.cells #[.int .i64 r.nm, .slice Am r.may.length cm] 58))
      have HIb := Lib.hid hIb
      have hco := hIb.cell hlt
      have hfz := hIb.froz i
      clear hr hY hIb
      go_wp2_with fail
      go_roundw
      case rel => exact ⟨i + 1, _, by go_num, by omega, HIb.out.set i r.nm, fun k r' hk hr' => by
        by_cases e : k = i
        · subst e
          rw [HR.out] at hr'; injection hr' with hr'; subst hr'
          exact upd_same _ _ _
        · rw [upd_other _ _ e]; exact HF.out k r' (by omega) hr'⟩
      case measure => simp [intOf]; omega
    · obtain rfl : n = i := by omega
      have HSl := Lib.hid (HI.out.sl (by omega) (L := L.map (·.nm)) (by rw [List.length_map, HN.out]) (fun k x hx => by
        rw [List.getElem?_map] at hx
        cases hr : L[k]? with
        | none => rw [hr] at hx; cases hx
        | some r =>
          rw [hr] at hx
          simp only [Option.map_some, Option.some.injEq] at hx
          rw [HF.out k r (by have := (List.getElem?_eq_some_iff.1 hr).1; have := HN.out; omega) hr, hx]))
      go_wp2_with fail
      go_ret
      exact ⟨⟨_, rfl, HSl.out, fun g e => by
        have : gw = g := by simpa [Value.ownBlock] using e
        have := HI.out.base
        omega⟩, HI.out.bel⟩
set_option maxRecDepth 100000 in
set_option maxHeartbeats 8000000 in
theorem areRows_any (v : Value) (m : Mx) (w : World) (hv : MxV w v m) (hs : MSm m) (hc : chrF m.st = true) :
    Calls Tryz.prog 84 #[v] w fun e w' => e = .returned (.bool (rowsF m)) ∧ Below w.heap.size w w' := by
  obtain ⟨A1, c1, A2, c2, W0, rfl, hW0, hb0, hM, hS, hR, hX⟩ := mx_box hv
  have HB0 := Lib.hid hb0
  have HW0 := Lib.hid hW0
  have HX := Lib.hid hX
  have HRw := Lib.hid (hR W0 (Below.refl _ _))
  have HNm := Lib.hid (namesOf_any _ m.rows W0 (hR W0 (Below.refl _ _)) (by have := hs.2.1; omega))
  have HAs := Lib.hid (fun Y (h : Below W0.heap.size W0 Y) (u : Value) (l : List Int) (hu : InSl Y Y.heap.size u l) (hl : l.length ≤ 1000000) => areSets_any _ u m l Y (hM Y h) hc hu hl)
  have HLm := Lib.hid hs.2.2
  obtain ⟨n, hn⟩ : ∃ n, m.rows.length = n := ⟨_, rfl⟩
  obtain ⟨ns, hns⟩ : ∃ ns, m.st.length = ns := ⟨_, rfl⟩
  have HN := Lib.hid hn
  have hn1 : n ≤ 1000 := by have := hs.2.1; omega
  have HR := Lib.hid (show rowsF m = (decide (n ≤ 400) && (decide (Nms (m.rows.map (·.nm))) && m.rows.all fun r => setsF m.st r.may)) from by unfold rowsF; rw [hn])
  obtain ⟨NL, hNL⟩ : ∃ NL, m.rows.map (·.nm) = NL := ⟨_, rfl⟩
  have HNl := Lib.hid (show NL.length = n from by rw [← hNL, List.length_map, hn])
  rw [hNL] at HNm HR
  obtain ⟨r, hr⟩ : ∃ r, rowsF m = r := ⟨_, rfl⟩
  rw [hr] at HR ⊢
  rw [hn] at HX HW0 HRw HNm HAs ⊢
  rw [hns] at HX HW0 HAs ⊢
  obtain ⟨k0, k1⟩ := HX.out W0 (Below.refl _ _)
  clear hv hs hc hW0 hb0 hM hS hR hX hn hns hr hNL
  by_cases h4 : 400 < n
  · have hi : (400 : Int) < (n : Int) := by omega
    have HF := Lib.hid (show r = false from by rw [HR.out, decide_eq_false (by omega), Bool.false_and])
    clear h4
    go_enter Tryz.func84, Tryz.ntmps84
    go_wp2_with fail
    rw [HW0.out]
    go_wp2_with fail
    go_ret
    exact ⟨by rw [HF.out]; rfl, HB0.out⟩
  have hi : ¬ (400 : Int) < (n : Int) := by omega
  have HT0 := Lib.hid (show r = (decide (Nms NL) && m.rows.all fun r => setsF m.st r.may) from by rw [HR.out, decide_eq_true (by omega), Bool.true_and])
  clear h4 HR
  go_enter Tryz.func84, Tryz.ntmps84
  go_wp2_with fail
  rw [HW0.out]
  (with_reducible refine HNm.out.mono ?_)
  rintro e w1 ⟨⟨nv, rfl, hnv, _⟩, hb⟩
  have HB1 := Lib.hid hb
  have HAn := Lib.hid (areNames_any nv NL w1 hnv (by rw [HNl.out]; omega))
  obtain ⟨An, cn, rfl, _⟩ := hnv.form
  clear hnv hb k0 k1 HNm
  obtain ⟨k0, k1⟩ := HX.out w1 HB1.out
  go_wp2_with fail
  (with_reducible refine HAn.out.mono ?_)
  rintro e w2 ⟨rfl, rfl⟩
  by_cases hN : Nms NL
  case neg =>
    have HF := Lib.hid (show r = false from by rw [HT0.out, decide_eq_false hN, Bool.false_and])
    rw [decide_eq_false hN]
    clear hN
    go_wp2_with fail
    go_ret
    exact ⟨by rw [HF.out]; rfl, HB0.out.trans (HB1.out.mono HB0.out.size)⟩
  case pos =>
  have HT1 := Lib.hid (show r = m.rows.all fun r => setsF m.st r.may from by rw [HT0.out, decide_eq_true hN, Bool.true_and])
  rw [decide_eq_true hN]
  clear hN HT0 HAn
  go_wp2_with fail
  clear k0 k1
  go_loopw [19] (fun iv wr => ∃ i : Nat, iv = .int .i64 (i : Int) ∧ i ≤ n ∧ Below W0.heap.size W0 wr ∧ ((m.rows.take i).all fun r => setsF m.st r.may) = true) (fun iv _ => n - (intOf iv).toNat)
  case atStart => exact ⟨0, rfl, by omega, HB1.out, rfl⟩
  case round =>
    obtain ⟨i, rfl, hin, hb, hg⟩ := hrel
    have HG := Lib.hid hg
    have HB := Lib.hid hb
    clear hb hg
    obtain ⟨k0, k1⟩ := HX.out wr HB.out
    by_cases hlt : i < n
    · obtain ⟨q, ad, Am, cm, hq, rfl, hY⟩ := HRw.out.at_ hlt
      obtain ⟨⟨d0, d1⟩, _⟩ := hY wr HB.out
      have hbx := below_new (w := wr) (.cells #[.int .i64 q.nm, .slice Am q.may.length cm] 58)
      have HBx := Lib.hid (HB.out.trans (hbx.mono HB.out.size))
      obtain ⟨e0, e1⟩ := HX.out _ HBx.out
      have HQ := Lib.hid hq
      have HAs1 := Lib.hid (HAs.out _ HBx.out _ q.may (hY _ HBx.out).2 (by have := HLm.out q (List.mem_of_getElem? hq); omega))
      clear hq hY hbx
      go_wp2_with fail
      (with_reducible refine HAs1.out.mono ?_)
      rintro e w3 ⟨rfl, hb⟩
      have HB3 := Lib.hid (HBx.out.trans (hb.mono HBx.out.size))
      clear hb k0 k1 d0 d1 e0 e1 HAs1
      cases hg : setsF m.st q.may with
      | false =>
        have HF := Lib.hid (show r = false from by rw [HT1.out]; exact all_false HQ.out hg)
        clear hg
        go_wp2_with fail
        go_ret
        exact ⟨by rw [HF.out]; rfl, HB0.out.trans (HB3.out.mono HB0.out.size)⟩
      | true =>
        have HT := Lib.hid (show ((m.rows.take (i + 1)).all fun r => setsF m.st r.may) = true from by rw [all_take HQ.out, HG.out]; exact hg)
        clear hg
        go_wp2_with fail
        go_roundw
        case rel => exact ⟨i + 1, by go_num, by omega, HB3.out, HT.out⟩
        case measure => simp [intOf]; omega
    · obtain rfl : n = i := by omega
      have HF := Lib.hid (show r = true from by rw [HT1.out]; exact all_end HN.out HG.out)
      go_wp2_with fail
      go_ret
      exact ⟨by rw [HF.out]; rfl, HB0.out.trans (HB.out.mono HB0.out.size)⟩
set_option maxRecDepth 100000 in
set_option maxHeartbeats 8000000 in
theorem CheckMatrix_any (v : Value) (m : Mx) (w : World) (hv : MxV w v m) (hs : MSm m) :
    Calls Tryz.prog 51 #[v] w fun e w' => e = .returned (.int .i64 (cmE m)) ∧ Below w.heap.size w w' := by
  obtain ⟨A1, c1, A2, c2, W0, rfl, hW0, hb0, hM, hS, hR, hX⟩ := mx_box hv
  have HB0 := Lib.hid hb0
  have HW0 := Lib.hid hW0
  have HAc := Lib.hid (areCharacters_any _ m.st W0 (hS W0 (Below.refl _ _)) (by have := hs.1; omega))
  have HAr := Lib.hid (fun (h : chrF m.st = true) => areRows_any _ m W0 (hM W0 (Below.refl _ _)) hs h)
  obtain ⟨k0, k1⟩ := hX W0 (Below.refl _ _)
  have HE := Lib.hid (show cmE m = if (chrF m.st && rowsF m) = true then 0 else 30 from rfl)
  obtain ⟨er, her⟩ : ∃ er, cmE m = er := ⟨_, rfl⟩
  rw [her] at HE ⊢
  generalize m.st.length = ns at *
  generalize m.rows.length = n at *
  clear hv hs hW0 hb0 hM hS hR hX her
  cases hc : chrF m.st with
  | false =>
    rw [hc] at HAc HE
    have HF := Lib.hid (show er = 30 from by rw [HE.out]; simp)
    clear hc HE
    go_enter Tryz.func51, Tryz.ntmps51
    go_wp2_with fail
    rw [HW0.out]
    (with_reducible refine HAc.out.mono ?_)
    rintro e w1 ⟨rfl, rfl⟩
    go_wp2_with fail
    go_ret
    exact ⟨by rw [HF.out]; rfl, HB0.out⟩
  | true =>
    rw [hc] at HAc HE
    have HAr1 := Lib.hid (HAr.out hc)
    clear hc HAr
    cases hr : rowsF m with
    | false =>
      rw [hr] at HE HAr1
      have HF := Lib.hid (show er = 30 from by rw [HE.out]; simp)
      clear hr HE
      go_enter Tryz.func51, Tryz.ntmps51
      go_wp2_with fail
      rw [HW0.out]
      (with_reducible refine HAc.out.mono ?_)
      rintro e w1 ⟨rfl, rfl⟩
      go_wp2_with fail
      (with_reducible refine HAr1.out.mono ?_)
      rintro e w2 ⟨rfl, hb⟩
      have HB2 := Lib.hid (HB0.out.trans (hb.mono HB0.out.size))
      clear hb
      go_wp2_with fail
      go_ret
      exact ⟨by rw [HF.out]; rfl, HB2.out⟩
    | true =>
      rw [hr] at HE HAr1
      have HF := Lib.hid (show er = 0 from by rw [HE.out]; simp)
      clear hr HE
      go_enter Tryz.func51, Tryz.ntmps51
      go_wp2_with fail
      rw [HW0.out]
      (with_reducible refine HAc.out.mono ?_)
      rintro e w1 ⟨rfl, rfl⟩
      go_wp2_with fail
      (with_reducible refine HAr1.out.mono ?_)
      rintro e w2 ⟨rfl, hb⟩
      have HB2 := Lib.hid (HB0.out.trans (hb.mono HB0.out.size))
      clear hb
      go_wp2_with fail
      go_ret
      exact ⟨by rw [HF.out]; rfl, HB2.out⟩
end Go.Proofs.YthfegbcbpeedbaaGreatDoor
namespace Go.Ky
open Go.Nm
def seenE (m : Mx) (LL : List (List Int)) : Int := if mxF m = true then (if (LL.all fun l => setsF m.st l) = true then 0 else 32) else 30
theorem seenE_bad {m : Mx} {LL : List (List Int)} (h : mxF m = false) : seenE m LL = 30 := by unfold seenE; simp [h]
theorem seenE_ok {m : Mx} {LL : List (List Int)} (h : mxF m = true) : seenE m LL = if (LL.all fun l => setsF m.st l) = true then 0 else 32 := by unfold seenE; rw [if_pos h]
theorem mx_chr {m : Mx} (h : mxF m = true) : chrF m.st = true := by unfold mxF at h; rw [Bool.and_eq_true] at h; exact h.1
theorem mx_rows {m : Mx} (h : mxF m = true) : rowsF m = true := by unfold mxF at h; rw [Bool.and_eq_true] at h; exact h.2
theorem mx_may {m : Mx} (h : mxF m = true) {r : Rw} (hr : r ∈ m.rows) : r.may.length = m.st.length := by
  have h2 := mx_rows h
  unfold rowsF at h2
  rw [Bool.and_eq_true, Bool.and_eq_true] at h2
  have h3 := (List.all_eq_true.1 h2.2.2) r hr
  unfold setsF at h3
  rw [Bool.and_eq_true] at h3
  exact of_decide_eq_true h3.1
theorem sets_len {st l : List Int} (h : setsF st l = true) : l.length = st.length := by
  unfold setsF at h
  rw [Bool.and_eq_true] at h
  exact of_decide_eq_true h.1
/-- two sets, place by place -/
def meetF (a b : Int) : Int := bits BinOp.and IntKind.i64 a b
def fitsF (may seen : List Int) : Bool := (may.zip seen).all fun p => decide (meetF p.1 p.2 ≠ 0)
end Go.Ky
namespace Go.Proofs.YthfegbcbpeedbaaGreatDoor
open Go.RowKit Go.Nm Go.Ky

set_option maxRecDepth 100000 in
set_option maxHeartbeats 8000000 in
theorem checkSeen_any (v u : Value) (m : Mx) (LL : List (List Int)) (w : World) (hv : MxV w v m) (hs : MSm m) (hu : VsSl w w.heap.size u LL) (hl : ∀ L ∈ LL, L.length ≤ 1000000) (hn : LL.length ≤ 1000) :
    Calls Tryz.prog 39 #[v, u] w fun e w' => e = .returned (.int .i64 (seenE m LL)) ∧ Below w.heap.size w w' := by
  obtain ⟨A1, c1, A2, c2, W0, rfl, hW0, hb0, hM, hS, hR, hX⟩ := mx_box hv
  have HB0 := Lib.hid hb0
  have HW0 := Lib.hid hW0
  have HM := Lib.hid hM
  obtain ⟨Au, cu, rfl⟩ := hu.form
  have HU := Lib.hid (fun Y (h : Below W0.heap.size W0 Y) => ((hu.below hb0).mono hb0.size |>.below h).mono h.size)
  have HL := Lib.hid hl
  have HC := Lib.hid (CheckMatrix_any _ m W0 (hM W0 (Below.refl _ _)) hs)
  have HAs := Lib.hid (fun Y (h : Below W0.heap.size W0 Y) (hc : chrF m.st = true) (u : Value) (l : List Int) (hu : InSl Y Y.heap.size u l) (hl : l.length ≤ 1000000) => areSets_any _ u m l Y (hM Y h) hc hu hl)
  have HX := Lib.hid hX
  obtain ⟨k0, k1⟩ := hX W0 (Below.refl _ _)
  obtain ⟨n, hn0⟩ : ∃ n, LL.length = n := ⟨_, rfl⟩
  have HN := Lib.hid hn0
  obtain ⟨r, hr⟩ : ∃ r, seenE m LL = r := ⟨_, rfl⟩
  rw [hr]
  have HR := Lib.hid hr
  rw [hn0] at HU hn ⊢
  generalize m.st.length = ns at *
  generalize m.rows.length = nr at *
  clear hv hu hW0 hb0 hM hS hR hX hl hn0 hr hs
  cases hm : mxF m with
  | false =>
    have HF := Lib.hid (show r = 30 from by rw [← HR.out, seenE_bad hm])
    rw [show cmE m = 30 from by unfold cmE; simp [hm]] at HC
    clear hm HR HAs
    go_enter Tryz.func39, Tryz.ntmps39
    go_wp2_with fail
    rw [HW0.out]
    (with_reducible refine HC.out.mono ?_)
    rintro e w1 ⟨rfl, hb⟩
    have HB1 := Lib.hid hb
    clear hb
    go_wp2_with fail
    go_ret
    exact ⟨by rw [HF.out]; rfl, HB0.out.trans (HB1.out.mono HB0.out.size)⟩
  | true =>
    have HT0 := Lib.hid (show r = if (LL.all fun l => setsF m.st l) = true then 0 else 32 from by rw [← HR.out, seenE_ok hm])
    have HAs1 := Lib.hid (fun Y (h : Below W0.heap.size W0 Y) => HAs.out Y h (mx_chr hm))
    rw [show cmE m = 0 from by unfold cmE; simp [hm]] at HC
    clear hm HR HAs
    go_enter Tryz.func39, Tryz.ntmps39
    go_wp2_with fail
    rw [HW0.out]
    (with_reducible refine HC.out.mono ?_)
    rintro e w1 ⟨rfl, hb⟩
    have HB1 := Lib.hid hb
    clear hb
    go_wp2_with fail
    clear k0 k1
    go_loopw [15] (fun iv wr => ∃ i : Nat, iv = .int .i64 (i : Int) ∧ i ≤ n ∧ Below W0.heap.size W0 wr ∧ ((LL.take i).all fun l => setsF m.st l) = true) (fun iv _ => n - (intOf iv).toNat)
    case atStart => exact ⟨0, rfl, by omega, HB1.out, rfl⟩
    case round =>
      obtain ⟨i, rfl, hin, hb, hg⟩ := hrel
      have HG := Lib.hid hg
      have HB := Lib.hid hb
      clear hb hg
      obtain ⟨k0, k1⟩ := HX.out wr HB.out
      by_cases hlt : i < n
      · obtain ⟨ad, lv, l, rfl, _, hq, hc, hi⟩ := (HU.out wr HB.out).at_ hlt
        obtain ⟨Al, cl, rfl, _⟩ := hi.form
        have HAs2 := Lib.hid (HAs1.out wr HB.out _ l hi (HL.out l (List.mem_of_getElem? hq)))
        have HQ := Lib.hid hq
        clear hq hi
        go_wp2_with fail
        (with_reducible refine HAs2.out.mono ?_)
        rintro e w3 ⟨rfl, hb⟩
        have HB3 := Lib.hid (HB.out.trans (hb.mono HB.out.size))
        clear hb k0 k1 hc HAs2
        cases hg : setsF m.st l with
        | false =>
          have HF := Lib.hid (show r = 32 from by rw [HT0.out, all_false HQ.out hg]; rfl)
          clear hg
          go_wp2_with fail
          go_ret
          exact ⟨by rw [HF.out]; rfl, HB0.out.trans (HB3.out.mono HB0.out.size)⟩
        | true =>
          have HT := Lib.hid (show ((LL.take (i + 1)).all fun l => setsF m.st l) = true from by rw [all_take HQ.out, HG.out]; exact hg)
          clear hg
          go_wp2_with fail
          go_roundw
          case rel => exact ⟨i + 1, by go_num, by omega, HB3.out, HT.out⟩
          case measure => simp [intOf]; omega
      · obtain rfl : n = i := by omega
        have HF := Lib.hid (show r = 0 from by rw [HT0.out, all_end HN.out HG.out]; rfl)
        go_wp2_with fail
        go_ret
        exact ⟨by rw [HF.out]; rfl, HB0.out.trans (HB.out.mono HB0.out.size)⟩
/-- a row of one list -/
theorem one_box {w : World} {v : Value} {l : List Int} (h : InSl w w.heap.size v l) : VsSl (w.alloc (.cells #[v] 22)) (w.alloc (.cells #[v] 22)).heap.size (.slice (some ⟨w.heap.size, 0, none⟩) 1 1) [l] := by
  have hb := below_new (w := w) (.cells #[v] 22)
  have hn := World.alloc_heap_new w (.cells #[v] 22)
  refine ⟨_, 1, [v], rfl, ⟨rfl, fun i u L h1 h2 => ?_⟩, fun i u h1 => ⟨_, rfl, (Array.getElem?_eq_some_iff.1 hn).1, ?_⟩⟩
  · obtain rfl : i = 0 := by have := (List.getElem?_eq_some_iff.1 h1).1; simp at this; omega
    simp at h1 h2
    subst h1; subst h2
    exact h.step hb
  · obtain rfl : i = 0 := by have := (List.getElem?_eq_some_iff.1 h1).1; simp at this; omega
    simp at h1
    subst h1
    rw [add_zero_k]
    simp only [World.cell?, hn]
    simp
end Go.Proofs.YthfegbcbpeedbaaGreatDoor
namespace Go.Ky
open Go.Nm
def openF (m : Mx) : List Int := if mxF m = true then m.st.map full else []
end Go.Ky
namespace Go.Proofs.YthfegbcbpeedbaaGreatDoor
open Go.RowKit Go.Nm Go.Ky

/-- v is a row -/
def RwV (w : World) (v : Value) (r : Rw) : Prop := ∃ Am cm, v = .agg #[.int .i64 r.nm, .slice Am r.may.length cm] ∧ InSl w w.heap.size (.slice Am r.may.length cm) r.may
theorem RwV.step {w w' : World} {v : Value} {r : Rw} (h : RwV w v r) (hb : Below w.heap.size w w') : RwV w' v r := by
  obtain ⟨Am, cm, e, h⟩ := h
  exact ⟨Am, cm, e, h.step hb⟩
set_option maxRecDepth 100000 in
set_option maxHeartbeats 8000000 in
theorem fits_any (v u : Value) (r : Rw) (l : List Int) (w : World) (hv : RwV w v r) (hu : InSl w w.heap.size u l) (hl : l.length = r.may.length) (hn : l.length ≤ 1000000) :
    Calls Tryz.prog 73 #[v, u] w fun e w' => e = .returned (.bool (fitsF r.may l)) ∧ Below w.heap.size w w' := by
  obtain ⟨Am, cm, rfl, hm⟩ := hv
  obtain ⟨Au, cu, rfl, _⟩ := hu.form
  obtain ⟨n, h⟩ : ∃ n, l.length = n := ⟨_, rfl⟩
  rw [h] at hl hn
  rw [← hl, h]
  rw [← hl] at hm
  rw [h] at hu
  have hb := below_new (w := w) (.cells #[.int .i64 r.nm, .slice Am n cm] 58)
  have HB := Lib.hid hb
  have hx := cells_two (World.alloc_heap_new w (.cells #[.int .i64 r.nm, .slice Am n cm] 58))
  obtain ⟨W0, hW0⟩ : ∃ W0, w.alloc (.cells #[.int .i64 r.nm, .slice Am n cm] 58) = W0 := ⟨_, rfl⟩
  have HW0 := Lib.hid hW0
  have HA := Lib.hid (show InA W0 W0.heap.size Au l from by rw [← hW0]; obtain ⟨_, _, e, _, _, h⟩ := hu.step hb; cases e; exact h)
  have HM := Lib.hid (show InA W0 W0.heap.size Am r.may from by rw [← hW0]; obtain ⟨_, _, e, _, _, h⟩ := hm.step hb; cases e; exact h)
  rw [hW0] at hx HB
  obtain ⟨k0, k1⟩ := hx
  have HN := Lib.hid h
  have HNm := Lib.hid hl.symm
  have HZl := Lib.hid (show (r.may.zip l).length = n from by rw [List.length_zip, h, ← hl]; omega)
  obtain ⟨b, hb0⟩ : ∃ b, fitsF r.may l = b := ⟨_, rfl⟩
  have HR := Lib.hid hb0
  rw [hb0]
  clear hm hu hb hW0 h hl hb0
  go_enter Tryz.func73, Tryz.ntmps73
  go_wp2_with fail
  rw [HW0.out]
  go_wp2_with fail
  go_loopw [9] (fun iv wr => ∃ i : Nat, iv = .int .i64 (i : Int) ∧ i ≤ n ∧ W0 = wr ∧ (((r.may.zip l).take i).all fun p => decide (meetF p.1 p.2 ≠ 0)) = true) (fun iv _ => n - (intOf iv).toNat)
  case atStart => exact ⟨0, rfl, by omega, rfl, rfl⟩
  case round =>
    obtain ⟨i, rfl, hin, rfl, hg⟩ := hrel
    have HG := Lib.hid hg
    clear hg
    by_cases hlt : i < n
    · obtain ⟨x, ad, hx, rfl, _, hcx⟩ := HA.out.at_ HN.out hlt
      obtain ⟨y, ad1, hy, rfl, _, hcy⟩ := HM.out.at_ HNm.out hlt
      have HQ := Lib.hid (zip_get hy hx)
      clear hx hy
      obtain ⟨z, hz⟩ : ∃ z, bits BinOp.and IntKind.i64 y x = z := ⟨_, rfl⟩
      have HZ := Lib.hid hz
      by_cases h0 : z = 0
      · have HF := Lib.hid (show b = false from by rw [← HR.out]; exact all_false HQ.out (decide_eq_false (by show ¬ meetF y x ≠ 0; unfold meetF; rw [HZ.out, h0]; simp)))
        go_wp2_with fail
        go_ret
        exact ⟨by rw [HF.out]; rfl, HB.out⟩
      · have HT := Lib.hid (show (((r.may.zip l).take (i + 1)).all fun p => decide (meetF p.1 p.2 ≠ 0)) = true from by rw [all_take HQ.out, HG.out]; exact decide_eq_true (by show meetF y x ≠ 0; unfold meetF; rw [HZ.out]; exact h0))
        go_wp2_with fail
        go_roundw
        case rel => exact ⟨i + 1, by go_num, by omega, by first | trivial | rfl, HT.out⟩
        case measure => simp [intOf]; omega
    · obtain rfl : n = i := by omega
      have HF := Lib.hid (show b = true from by rw [← HR.out]; exact all_end HZl.out HG.out)
      go_wp2_with fail
      go_ret
      exact ⟨by rw [HF.out]; rfl, HB.out⟩
set_option maxRecDepth 100000 in
set_option maxHeartbeats 8000000 in
theorem Open_any (v : Value) (m : Mx) (w : World) (hv : MxV w v m) (hs : MSm m) :
    Calls Tryz.prog 49 #[v] w fun e w' => (∃ u, e = .returned (.tuple #[u, .int .i64 (cmE m)]) ∧ InSl w' w'.heap.size u (openF m) ∧ ∀ g, u.ownBlock = some g → w.heap.size ≤ g) ∧ Below w.heap.size w w' := by
  obtain ⟨A1, c1, A2, c2, W0, rfl, hW0, hb0, hM, hS, hR, hX⟩ := mx_box hv
  have HB0 := Lib.hid hb0
  have HW0 := Lib.hid hW0
  have HX := Lib.hid hX
  have HC := Lib.hid (CheckMatrix_any _ m W0 (hM W0 (Below.refl _ _)) hs)
  obtain ⟨k0, k1⟩ := hX W0 (Below.refl _ _)
  have HSl := Lib.hid hS
  obtain ⟨n, hn⟩ : ∃ n, m.st.length = n := ⟨_, rfl⟩
  have HN := Lib.hid hn
  have hn1 : n ≤ 1000 := by have := hs.1; omega
  rw [hn] at HX HSl HW0 HC k0 ⊢
  generalize m.rows.length = nr at *
  clear hv hW0 hb0 hM hS hR hX hs hn
  cases hm : mxF m with
  | false =>
    have HF := Lib.hid (show cmE m = 30 ∧ openF m = [] from ⟨by unfold cmE; simp [hm], by unfold openF; simp [hm]⟩)
    rw [HF.out.1] at HC ⊢
    rw [HF.out.2]
    clear hm HF
    go_enter Tryz.func49, Tryz.ntmps49
    go_wp2_with fail
    rw [HW0.out]
    (with_reducible refine HC.out.mono ?_)
    rintro e w1 ⟨rfl, hb⟩
    have HB1 := Lib.hid hb
    clear hb
    go_wp2_with fail
    go_ret2
    exact ⟨⟨_, rfl, InSl.nil _ _, fun g e => by cases e⟩, HB0.out.trans (HB1.out.mono HB0.out.size)⟩
  | true =>
    have HF := Lib.hid (show cmE m = 0 ∧ openF m = m.st.map full from ⟨by unfold cmE; simp [hm], by unfold openF; simp [hm]⟩)
    have HCh := Lib.hid (show ∀ x ∈ m.st, 2 ≤ x ∧ x ≤ 16 from fun x hx => by
      have hc := mx_chr hm
      unfold chrF at hc
      rw [Bool.and_eq_true] at hc
      exact of_decide_eq_true ((List.all_eq_true.1 hc.2) x hx))
    rw [HF.out.1] at HC ⊢
    rw [HF.out.2]
    clear hm HF
    go_enter Tryz.func49, Tryz.ntmps49
    go_wp2_with fail
    rw [HW0.out]
    (with_reducible refine HC.out.mono ?_)
    rintro e w1 ⟨rfl, hb⟩
    have HB1 := Lib.hid hb
    clear hb k0 k1
    obtain ⟨k0, k1⟩ := HX.out w1 HB1.out
    go_wp2_with (refine wpList_make_ints rfl _ _ rfl n rfl rfl (by omega) ?_; intro cs hcs1 hcs2; have HI0 := Lib.hid (IwI.start (W := w1) hcs1 hcs2); clear hcs1 hcs2; obtain ⟨k2, k3⟩ := HX.out _ (HB1.out.trans (HI0.out.bel.mono HB1.out.size)))
    obtain ⟨gw, hgw⟩ : ∃ gw, w1.heap.size = gw := ⟨_, rfl⟩
    have HGw := Lib.hid hgw
    rw [hgw] at HI0 ⊢
    clear hgw k0 k1 k2 k3
    go_loopw [20] (fun iv wr => ∃ (i : Nat) (f : Nat → Int), iv = .int .i64 (i : Int) ∧ i ≤ n ∧ IwI w1 gw n f wr ∧ ∀ k x, k < i → m.st[k]? = some x → f k = full x) (fun iv _ => n - (intOf iv).toNat)
    case atStart => exact ⟨0, _, rfl, by omega, HI0.out, fun k r hk => absurd hk (by omega)⟩
    case round =>
      obtain ⟨i, f, rfl, hin, hI, hf⟩ := hrel
      have HI := Lib.hid hI
      have HFk := Lib.hid hf
      clear hI hf
      by_cases hlt : i < n
      · have HA := Lib.hid (show InA wr wr.heap.size A1 m.st from by obtain ⟨_, _, e, _, _, h⟩ := HSl.out wr (HB1.out.trans (HI.out.bel.mono HB1.out.size)); cases e; exact h)
        obtain ⟨x, ad, hx, rfl, _, hcx⟩ := HA.out.at_ HN.out hlt
        obtain ⟨hq2, hq3⟩ := HCh.out x (List.mem_of_getElem? hx)
        obtain ⟨k, rfl⟩ : ∃ k : Nat, x = (k : Int) := ⟨x.toNat, by omega⟩
        have HFu := Lib.hid (fullSet_any k wr (by omega))
        obtain ⟨fu, hfu⟩ : ∃ fu, full (k : Int) = fu := ⟨_, rfl⟩
        have HFf := Lib.hid hfu
        rw [hfu] at HFu
        have hco := HI.out.cell hlt
        have hfz := HI.out.froz i
        have HXx := Lib.hid hx
        clear hx hfu
        go_wp2_with fail
        (with_reducible refine HFu.out.mono ?_)
        rintro e w2 ⟨rfl, rfl⟩
        go_wp2_with fail
        go_roundw
        case rel => exact ⟨i + 1, _, by go_num, by omega, HI.out.set i fu, fun j r' hk hr' => by
          by_cases e : j = i
          · subst e
            rw [HXx.out] at hr'; injection hr' with hr'; subst hr'
            rw [HFf.out]
            exact upd_same _ _ _
          · rw [upd_other _ _ e]; exact HFk.out j r' (by omega) hr'⟩
        case measure => simp [intOf]; omega
      · obtain rfl : n = i := by omega
        have HSx := Lib.hid (HI.out.sl (by omega) (L := m.st.map full) (by rw [List.length_map, HN.out]) (fun k x hx => by
          rw [List.getElem?_map] at hx
          cases hr : m.st[k]? with
          | none => rw [hr] at hx; cases hx
          | some r =>
            rw [hr] at hx
            simp only [Option.map_some, Option.some.injEq] at hx
            rw [HFk.out k r (by have := (List.getElem?_eq_some_iff.1 hr).1; have := HN.out; omega) hr, hx]))
        have HBe := Lib.hid (HB1.out.trans (HI.out.bel.mono HB1.out.size))
        go_wp2_with fail
        go_ret2
        exact ⟨⟨_, rfl, HSx.out, fun g e => by
          have : gw = g := by simpa [Value.ownBlock] using e
          have := HI.out.base
          have := HB1.out.size
          have := HB0.out.size
          omega⟩, HB0.out.trans (HBe.out.mono HB0.out.size)⟩
end Go.Proofs.YthfegbcbpeedbaaGreatDoor
namespace Go.Ky
open Go.Nm
theorem find_at {α : Type} {p : α → Bool} {L : List α} {i : Nat} {r : α} (h : L[i]? = some r) (hp : p r = true) (hno : ∀ x ∈ L.take i, p x = false) : L.find? p = some r := by
  obtain ⟨hi, rfl⟩ := List.getElem?_eq_some_iff.1 h
  have e : L = L.take i ++ L[i] :: L.drop (i + 1) := by rw [← List.drop_eq_getElem_cons hi, List.take_append_drop]
  have e2 : L.find? p = (L.take i ++ L[i] :: L.drop (i + 1)).find? p := congrArg (List.find? p) e
  rw [e2, List.find?_append, List.find?_eq_none.2 (fun x hx => by simp [hno x hx]), Option.none_or, List.find?_cons_of_pos hp]
def rowO (m : Mx) (name : Int) : Option Rw := m.rows.find? fun r => decide (r.nm = name)
def rowF (m : Mx) (name : Int) : Rw := if mxF m = true then (rowO m name).getD ⟨0, []⟩ else ⟨0, []⟩
def rowE (m : Mx) (name : Int) : Int := if mxF m = true then (if (rowO m name).isSome = true then 0 else 1) else 30
end Go.Ky
namespace Go.Proofs.YthfegbcbpeedbaaGreatDoor
open Go.RowKit Go.Nm Go.Ky

def Fr (B : Nat) (X : World) (u : Value) (L : List Int) : Prop := InSl X X.heap.size u L ∧ ∀ g, u.ownBlock = some g → B ≤ g ∧ g < X.heap.size
theorem Fr.step {B : Nat} {X Y : World} {u : Value} {L : List Int} (h : Fr B X u L) (hb : Below X.heap.size X Y) : Fr B Y u L := ⟨h.1.step hb, fun g e => ⟨(h.2 g e).1, Nat.lt_of_lt_of_le (h.2 g e).2 hb.size⟩⟩
theorem Fr.low {B B' : Nat} {X : World} {u : Value} {L : List Int} (h : Fr B X u L) (hb : B' ≤ B) : Fr B' X u L := ⟨h.1, fun g e => ⟨Nat.le_trans hb (h.2 g e).1, (h.2 g e).2⟩⟩
theorem OwN.fr {W X : World} {u : Value} {L : List Int} (h : OwN W u L X) : Fr W.heap.size X u L := ⟨h.sl, fun g e => h.own.lt g e⟩
theorem Fr.nil (B : Nat) (X : World) : Fr B X (.slice none 0 0) [] := ⟨InSl.nil _ _, fun g e => by cases e⟩
theorem cell_one {w : World} {g : Nat} {a : Value} {t : TypeId} (h : w.heap[g]? = some (.cells #[a] t)) : w.cell? ⟨g, 0, none⟩ = some a := by
  simp [World.cell?, h]
set_option maxRecDepth 100000 in
set_option maxHeartbeats 4000000 in
theorem row1_any (q : Rw) (Am : Option Addr) (cm g : Nat) (name : Int) (w : World) (hb : w.heap[g]? = some (.cells #[.int .i64 name] 3)) :
    Calls Tryz.prog 94 #[.agg #[.int .i64 q.nm, .slice Am q.may.length cm], .pointer (some ⟨g, 0, none⟩)] w fun e w' => e = .returned (.bool (decide (q.nm = name))) ∧ Below w.heap.size w w' := by
  have c0 := cell_one ((Below.heap_alloc w (.cells #[.int .i64 q.nm, .slice Am q.may.length cm] 58) g (Array.getElem?_eq_some_iff.1 hb).1).trans hb)
  have hz : g < w.heap.size := (Array.getElem?_eq_some_iff.1 hb).1
  have HB := Lib.hid (below_new (w := w) (.cells #[.int .i64 q.nm, .slice Am q.may.length cm] 58))
  generalize q.may.length = n at *
  clear hb
  go_enter Tryz.func94, Tryz.ntmps94
  go_wp2_with fail
  go_ret
  exact ⟨by first | rfl | simp, HB.out⟩
set_option maxRecDepth 100000 in
set_option maxHeartbeats 4000000 in
theorem IndexRow_any (g : Nat) (name : Int) (v : Value) (L : List Rw) (w : World) (hv : IlSl w w.heap.size v L) (hg : w.heap[g]? = some (.cells #[.int .i64 name] 3)) (hn : L.length ≤ 100000) :
    Calls Tryz.prog 55 #[v, .func (.func 94) #[] #[.pointer (some ⟨g, 0, none⟩)]] w fun e w' =>
      ((∃ (i : Nat) (r : Rw), e = .returned (.int .i64 (i : Int)) ∧ L[i]? = some r ∧ i < L.length ∧ L.find? (fun r => decide (r.nm = name)) = some r) ∨ (e = .returned (.int .i64 (-1)) ∧ L.find? (fun r => decide (r.nm = name)) = none)) ∧ Below w.heap.size w w' := by
  have HG := Lib.hid (fun Y (h : Below w.heap.size w Y) => (h.block _ (Array.getElem?_eq_some_iff.1 hg).1).trans hg)
  have HU := Lib.hid hv
  obtain ⟨A, c, rfl⟩ := hv.form
  obtain ⟨n, h⟩ : ∃ n, L.length = n := ⟨_, rfl⟩
  have HN := Lib.hid h
  rw [h] at HU hn ⊢
  clear hv h hg
  go_enter Tryz.func55, Tryz.ntmps55
  go_wp2_with fail
  go_loopw [8] (fun iv wr => ∃ i : Nat, iv = .int .i64 (i : Int) ∧ i ≤ n ∧ Below w.heap.size w wr ∧ ∀ x ∈ L.take i, decide (x.nm = name) = false) (fun iv _ => n - (intOf iv).toNat)
  case atStart => exact ⟨0, rfl, by omega, Below.refl _ _, fun x hx => by simp at hx⟩
  case round =>
    obtain ⟨i, rfl, hin, hb, hno⟩ := hrel
    have HB := Lib.hid hb
    have HNo := Lib.hid hno
    clear hb hno
    by_cases hlt : i < n
    · obtain ⟨r, ad, Am, cm, hr, rfl, hY⟩ := HU.out.at_ hlt
      obtain ⟨⟨d0, d1⟩, _⟩ := hY wr HB.out
      have HR := Lib.hid hr
      have HC := Lib.hid (row1_any r Am cm g name wr (HG.out wr HB.out))
      clear hr hY
      go_wp2_with fail
      (with_reducible refine HC.out.mono ?_)
      rintro e w1 ⟨rfl, hb⟩
      have HB1 := Lib.hid (HB.out.trans (hb.mono HB.out.size))
      clear hb d0 d1 HC
      cases hp : decide (r.nm = name) with
      | true =>
        have HF := Lib.hid (find_at (p := fun r => decide (r.nm = name)) HR.out hp HNo.out)
        clear hp
        go_wp2_with fail
        go_ret
        exact ⟨.inl ⟨i, r, rfl, HR.out, hlt, HF.out⟩, HB1.out⟩
      | false =>
        have HP := Lib.hid hp
        clear hp
        go_wp2_with fail
        go_roundw
        case rel => exact ⟨i + 1, by go_num, by omega, HB1.out, fun x hx => by
          rw [show L.take (i + 1) = L.take i ++ [r] from by rw [List.take_add_one, HR.out]; rfl] at hx
          rcases List.mem_append.1 hx with hx | hx
          · exact HNo.out x hx
          · simp at hx; subst hx; exact HP.out⟩
        case measure => simp [intOf]; omega
    · obtain rfl : n = i := by omega
      have HF := Lib.hid (show L.find? (fun r => decide (r.nm = name)) = none from List.find?_eq_none.2 fun x hx => by
        have h := HNo.out x (by rw [List.take_of_length_le (by have := HN.out; omega)]; exact hx)
        simpa using h)
      go_wp2_with fail
      go_ret
      exact ⟨.inr ⟨rfl, HF.out⟩, HB.out⟩
set_option maxRecDepth 100000 in
set_option maxHeartbeats 4000000 in
theorem find_any (g : Nat) (name : Int) (v : Value) (L : List Rw) (w : World) (hv : IlSl w w.heap.size v L) (hg : w.heap[g]? = some (.cells #[.int .i64 name] 3)) (hn : L.length ≤ 100000) :
    Calls Tryz.prog 26 #[v, .func (.func 94) #[] #[.pointer (some ⟨g, 0, none⟩)]] w fun e w' =>
      ((∃ r Am cm, L.find? (fun r => decide (r.nm = name)) = some r ∧ e = .returned (.tuple #[.agg #[.int .i64 r.nm, .slice Am r.may.length cm], .bool true]) ∧ InSl w' w'.heap.size (.slice Am r.may.length cm) r.may) ∨ (L.find? (fun r => decide (r.nm = name)) = none ∧ e = .returned (.tuple #[.agg #[.int .i64 0, .slice none 0 0], .bool false]))) ∧ Below w.heap.size w w' := by
  have hb := below_new (w := w) (.cells #[.int .i64 0, .slice none 0 0] 58)
  have hnw := World.alloc_heap_new w (.cells #[.int .i64 0, .slice none 0 0] 58)
  have HB := Lib.hid hb
  have HNw := Lib.hid hnw
  have HI := Lib.hid (IndexRow_any g name v L (w.alloc (.cells #[.int .i64 0, .slice none 0 0] 58)) (hv.step hb) ((hb.block _ (Array.getElem?_eq_some_iff.1 hg).1).trans hg) hn)
  have HU := Lib.hid hv
  obtain ⟨A, c, rfl⟩ := hv.form
  obtain ⟨n, h⟩ : ∃ n, L.length = n := ⟨_, rfl⟩
  rw [h] at HU hn HI ⊢
  clear hv h hg hb hnw
  go_enter Tryz.func26, Tryz.ntmps26
  go_wp2_with fail
  (with_reducible refine HI.out.mono ?_)
  rintro e w1 ⟨hR, hb1⟩
  have HB1 := Lib.hid (HB.out.trans (hb1.mono HB.out.size))
  have hN1 := (hb1.block _ (Array.getElem?_eq_some_iff.1 HNw.out).1).trans HNw.out
  obtain ⟨r0, r1⟩ := cells_two hN1
  have f0 := frozen_cells hN1 0
  have f1 := frozen_cells hN1 1
  have HN1 := Lib.hid hN1
  clear hb1 hN1
  rcases hR with ⟨i, r, rfl, hr, hi, hf⟩ | ⟨rfl, hf⟩
  · obtain ⟨r', ad, Am, cm, hr', rfl, hY⟩ := HU.out.at_ (show i < n from by omega)
    rw [hr] at hr'; injection hr' with hr'; subst hr'
    obtain ⟨⟨d0, d1⟩, _⟩ := hY w1 HB1.out
    have HBf := Lib.hid (show Below w.heap.size w ((w1.setCell ⟨w.heap.size, 0, none⟩ (.int .i64 r.nm)).setCell ⟨w.heap.size, 1, none⟩ (.slice Am r.may.length cm)) from (HB1.out.setCell (by simp) _).setCell (by simp) _)
    have HS := Lib.hid ((hY _ HBf.out).2)
    have HF := Lib.hid hf
    have hin : i < n := by omega
    obtain ⟨k, hk⟩ : ∃ k, r.may.length = k := ⟨_, rfl⟩
    have HK := Lib.hid hk
    rw [hk] at d1 HBf HS
    clear hY hf hr hi hk
    go_wp2_with fail
    exact bodyPost_ret (v := .tuple #[.agg #[.int .i64 r.nm, .slice Am k cm], .bool true]) (by simp [results, Tryz.results26, go_sem, r0, r1]) rfl ⟨.inl ⟨r, Am, cm, HF.out, by rw [HK.out], by rw [HK.out]; exact HS.out⟩, HBf.out⟩
  · have HF := Lib.hid hf
    clear hf
    go_wp2_with fail
    exact bodyPost_ret (v := .tuple #[.agg #[.int .i64 0, .slice none 0 0], .bool false]) (by simp [results, Tryz.results26, go_sem, r0, r1]) rfl ⟨.inr ⟨HF.out, rfl⟩, (HB1.out.setCell (by simp) _).setCell (by simp) _⟩
end Go.Proofs.YthfegbcbpeedbaaGreatDoor
namespace Go.Proofs.YthfegbcbpeedbaaGreatDoor
open Go.RowKit Go.Nm Go.Ky

structure RyI (V : World) (g : Nat) (nv vm : Value) (may : List Int) (R : World → Prop) (dn : Nat → Bool) (val : Nat → Value) (X : World) : Prop where
  s0 : dn 0 = true → val 0 = nv
  s1 : dn 1 = true → val 1 = .pointer (some ⟨g, 1, none⟩)
  s2 : dn 2 = true → val 2 = vm
  s6 : dn 6 = true → val 6 = .int .i64 0
  bel : dn 5 = false → Below V.heap.size V X
  e3 : dn 3 = true → dn 5 = false → Fr V.heap.size X (val 3) may
  e4 : dn 4 = true → dn 5 = false → val 4 = .agg #[nv, val 3]
  e5 : dn 5 = true → R X
section
variable {V : World} {g : Nat} {nv vm : Value} {may : List Int} {R : World → Prop} {dn : Nat → Bool} {val : Nat → Value} {X Y : World}
theorem RyI.op0 (h : RyI V g nv vm may R dn val X) : RyI V g nv vm may R (andB dn 0) (updV val 0 (nv)) X :=
  ⟨(fun _ => rfl), h.s1, h.s2, h.s6, h.bel, h.e3, h.e4, h.e5⟩
theorem RyI.op1 (h : RyI V g nv vm may R dn val X) : RyI V g nv vm may R (andB dn 1) (updV val 1 (.pointer (some ⟨g, 1, none⟩))) X :=
  ⟨h.s0, (fun _ => rfl), h.s2, h.s6, h.bel, h.e3, h.e4, h.e5⟩
theorem RyI.op2 (h : RyI V g nv vm may R dn val X) : RyI V g nv vm may R (andB dn 2) (updV val 2 (vm)) X :=
  ⟨h.s0, h.s1, (fun _ => rfl), h.s6, h.bel, h.e3, h.e4, h.e5⟩
theorem RyI.op6 (h : RyI V g nv vm may R dn val X) : RyI V g nv vm may R (andB dn 6) (updV val 6 (.int .i64 0)) X :=
  ⟨h.s0, h.s1, h.s2, (fun _ => rfl), h.bel, h.e3, h.e4, h.e5⟩
theorem RyI.op3 (h : RyI V g nv vm may R dn val X) (n4 : dn 4 = false) (n5 : dn 5 = false) {u : Value} (hb : Below X.heap.size X Y) (hu : Fr X.heap.size Y u may) : RyI V g nv vm may R (andB dn 3) (updV val 3 (u)) (Y) :=
  ⟨h.s0, h.s1, h.s2, h.s6, (fun n => (h.bel n).trans (hb.mono (h.bel n).size)), (fun _ n => hu.low (h.bel n).size), (fun d => f_t n4 d), (fun d => f_t n5 d)⟩
theorem RyI.op4 (h : RyI V g nv vm may R dn val X)  : RyI V g nv vm may R (andB dn 4) (updV val 4 (.agg #[nv, val 3])) (X) :=
  ⟨h.s0, h.s1, h.s2, h.s6, h.bel, h.e3, (fun _ _ => rfl), h.e5⟩
theorem RyI.op5 (h : RyI V g nv vm may R dn val X) {u : Value} (hR : R Y) : RyI V g nv vm may R (andB dn 5) (updV val 5 (u)) (Y) :=
  ⟨h.s0, h.s1, h.s2, h.s6, (fun n => nomatch n), (fun _ n => nomatch n), (fun _ n => nomatch n), (fun _ => hR)⟩
end
section
variable {o : Oper} {a : Act} {w : World} {K : Act → World → Prop} {Q : Exit → Act → World → Prop}
set_option maxRecDepth 100000 in
theorem opFieldR (k : Nat) (q g : Nat) (hk : k < 2) (ho : o.op = .fieldAddr 58 (.tmp q) k) (hq : a.tmps.getD q undef = .pointer (some ⟨g, 0, none⟩)) (h : K (a.put o.dst (.pointer (some ⟨g, k, none⟩))) w) : o.wp Tryz.prog a w K Q := by
  unfold Oper.wp execOp
  have he : a.eval (.tmp q) = .pointer (some ⟨g, 0, none⟩) := hq
  simp only [ho, he]
  rcases (show k = 0 ∨ k = 1 by omega) with rfl | rfl <;>
  · go_simp
    exact h
theorem opAssignK (z : Value) (ho : o.op = .assign (.const z)) (h : K (a.put o.dst z) w) : o.wp Tryz.prog a w K Q := by
  unfold Oper.wp execOp
  simp only [ho]
  go_simp
  exact h
set_option maxRecDepth 100000 in
theorem opCallCl (q : Nat) (v1 : Value) (R : Ending → World → Prop) (ho : o.op = .call { callee := .value (.func 60), args := #[.tmp q], argTypes := #[22] }) (h1 : a.tmps.getD q undef = v1)
    (hc : Calls Tryz.prog 60 #[v1] w R) (h : ∀ e w', R e w' → ∃ v, e = .returned v ∧ K (a.put o.dst v) w') : o.wp Tryz.prog a w K Q := by
  unfold Oper.wp execOp
  have e1 : a.eval (.tmp q) = v1 := h1
  simp only [ho]
  go_simp
  refine hc.mono ?_
  intro e w' hR
  obtain ⟨v, rfl, hK⟩ := h e w' hR
  exact hK
set_option maxRecDepth 100000 in
theorem opBuildR (q r : Nat) (y : Int) (A1 : Option Addr) (n1 c1 : Nat) (ho : o.op = .build 58 #[(0, .tmp q), (1, .tmp r)]) (h1 : a.tmps.getD q undef = .int .i64 y) (h2 : a.tmps.getD r undef = .slice A1 n1 c1) (h : K (a.put o.dst (.agg #[.int .i64 y, .slice A1 n1 c1])) w) : o.wp Tryz.prog a w K Q := by
  unfold Oper.wp execOp
  have e1 : a.tmps[q]?.getD undef = .int .i64 y := by rw [← h1, Array.getD_eq_getD_getElem?]
  have e2 : a.tmps[r]?.getD undef = .slice A1 n1 c1 := by rw [← h2, Array.getD_eq_getD_getElem?]
  simp only [ho]
  go_simp
  exact h
set_option maxRecDepth 100000 in
theorem opStoreR (q r g : Nat) (y : Int) (A1 : Option Addr) (n1 d1 : Nat) (u1 u2 : Value) (ho : o.op = .store 58 (.tmp q) (.tmp r)) (hq : a.tmps.getD q undef = .pointer (some ⟨g, 0, none⟩)) (hr : a.tmps.getD r undef = .agg #[.int .i64 y, .slice A1 n1 d1]) (hg : w.heap[g]? = some (.cells #[u1, u2] 58)) (h : ∀ u, K (a.put o.dst u) ((w.setCell ⟨g, 0, none⟩ (.int .i64 y)).setCell ⟨g, 1, none⟩ (.slice A1 n1 d1))) : o.wp Tryz.prog a w K Q := by
  unfold Oper.wp execOp
  have he : a.eval (.tmp q) = .pointer (some ⟨g, 0, none⟩) := hq
  have he2 : a.eval (.tmp r) = .agg #[.int .i64 y, .slice A1 n1 d1] := hr
  obtain ⟨c0, c1⟩ := cells_two hg
  have f0 := frozen_cells hg 0
  have f1 := frozen_cells hg 1
  simp only [ho, he, he2]
  go_simp
  exact h _
end
set_option maxRecDepth 100000 in
set_option maxHeartbeats 8000000 in
theorem Row_any (v : Value) (m : Mx) (name : Int) (w : World) (hv : MxV w v m) (hs : MSm m) :
    Calls Tryz.prog 74 #[v, .int .i64 name] w fun e w' => (∃ rv, e = .returned (.tuple #[.agg #[.int .i64 (rowF m name).nm, rv], .int .i64 (rowE m name)]) ∧ Fr w.heap.size w' rv (rowF m name).may) ∧ Below w.heap.size w w' := by
  obtain ⟨A1, c1, A2, c2, W0, rfl, hW0, hb0, hM, hS, hR, hX⟩ := mx_box hv
  have hz : W0.heap.size = w.heap.size + 1 := by rw [← hW0]; simp
  have hba := below_new (w := W0) (.cells #[.int .i64 name] 3)
  have hna := World.alloc_heap_new W0 (.cells #[.int .i64 name] 3)
  obtain ⟨Wa, hWa⟩ : ∃ Wa, W0.alloc (.cells #[.int .i64 name] 3) = Wa := ⟨_, rfl⟩
  have hza : Wa.heap.size = w.heap.size + 1 + 1 := by rw [← hWa, ← hz]; simp
  rw [hWa] at hba hna
  have hbb := below_new (w := Wa) (.cells #[.int .i64 0, .slice none 0 0] 58)
  have hnb := World.alloc_heap_new Wa (.cells #[.int .i64 0, .slice none 0 0] 58)
  obtain ⟨W1, hW1⟩ : ∃ W1, Wa.alloc (.cells #[.int .i64 0, .slice none 0 0] 58) = W1 := ⟨_, rfl⟩
  rw [hW1] at hbb hnb
  rw [hz] at hna
  rw [hza] at hnb
  have hna := (hbb.block _ (by omega)).trans hna
  have hb1 := hba.trans (hbb.mono hba.size)
  have HB1 := Lib.hid hb1
  have HW := Lib.hid (And.intro hW0 (And.intro hWa hW1))
  have HB0 := Lib.hid hb0
  have HX := Lib.hid (fun Y (h : Below W1.heap.size W1 Y) => And.intro (hX Y (hb1.trans (h.mono hb1.size))) (And.intro ((h.block _ (Array.getElem?_eq_some_iff.1 hna).1).trans hna) ((h.block _ (Array.getElem?_eq_some_iff.1 hnb).1).trans hnb)))
  have HC := Lib.hid (CheckMatrix_any _ m W1 (hM W1 hb1) hs)
  have HFd := Lib.hid (fun Y (h : Below W1.heap.size W1 Y) => find_any (w.heap.size + 1) name _ m.rows Y (hR Y (hb1.trans (h.mono hb1.size))) ((h.block _ (Array.getElem?_eq_some_iff.1 hna).1).trans hna) (by have := hs.2.1; omega))
  have HM3 := Lib.hid hs.2.2
  have hzw : w.heap.size + 3 ≤ W1.heap.size := by rw [← hW1]; simp [hza]
  obtain ⟨⟨k0, k1⟩, hn, hr⟩ := HX.out W1 (Below.refl _ _)
  have n0 := cell_one hn
  generalize m.st.length = ns at *
  generalize m.rows.length = nr at *
  clear hv hs hW0 hb0 hM hS hR hX hba hna hbb hnb hb1 hWa hW1 hz hza hn hr
  cases hm : mxF m with
  | false =>
    have HF := Lib.hid (show cmE m = 30 ∧ rowE m name = 30 ∧ rowF m name = ⟨0, []⟩ from ⟨by unfold cmE; simp [hm], by unfold rowE; simp [hm], by unfold rowF; simp [hm]⟩)
    rw [HF.out.1] at HC
    rw [HF.out.2.1, HF.out.2.2]
    clear hm HF HFd
    go_enter Tryz.func74, Tryz.ntmps74
    go_wp2_with fail
    rw [HW.out.1, HW.out.2.1, HW.out.2.2]
    (try go_wp2_with fail)
    (with_reducible refine HC.out.mono ?_)
    rintro e w1 ⟨rfl, hb⟩
    have HB2 := Lib.hid (HB0.out.trans ((HB1.out.trans (hb.mono HB1.out.size)).mono HB0.out.size))
    obtain ⟨_, _, hr⟩ := HX.out w1 hb
    obtain ⟨r0, r1⟩ := cells_two hr
    have f0 := frozen_cells hr 0
    have f1 := frozen_cells hr 1
    clear hb hr k0 k1 n0
    go_wp2_with fail
    exact bodyPost_ret (v := .tuple #[.agg #[.int .i64 0, .slice none 0 0], .int .i64 30]) (by simp [results, Tryz.results74, go_sem, r0, r1]) rfl ⟨⟨_, rfl, Fr.nil _ _⟩, (HB2.out.setCell (by show _ ≤ _ + 1 + 1; omega) _).setCell (by show _ ≤ _ + 1 + 1; omega) _⟩
  | true =>
    have HF := Lib.hid (show cmE m = 0 ∧ rowE m name = (if (rowO m name).isSome = true then 0 else 1) ∧ rowF m name = (rowO m name).getD ⟨0, []⟩ from ⟨by unfold cmE; simp [hm], by unfold rowE; simp [hm], by unfold rowF; simp [hm]⟩)
    rw [HF.out.1] at HC
    rw [HF.out.2.1, HF.out.2.2]
    have HO := Lib.hid (show rowO m name = m.rows.find? (fun r => decide (r.nm = name)) from rfl)
    obtain ⟨ro, hro⟩ : ∃ ro, rowO m name = ro := ⟨_, rfl⟩
    rw [hro] at HO ⊢
    clear hm HF hro
    go_enter Tryz.func74, Tryz.ntmps74
    go_wp2_with fail
    rw [HW.out.1, HW.out.2.1, HW.out.2.2]
    (try go_wp2_with fail)
    (with_reducible refine HC.out.mono ?_)
    rintro e w1 ⟨rfl, hb⟩
    have HB2 := Lib.hid hb
    obtain ⟨⟨c0, c1⟩, _, _⟩ := HX.out w1 hb
    have HFd1 := Lib.hid (HFd.out w1 hb)
    clear hb k0 k1 n0 HC HFd
    go_wp2_with fail
    (with_reducible refine HFd1.out.mono ?_)
    rintro e w2 ⟨hR, hb⟩
    have HB3 := Lib.hid (HB2.out.trans (hb.mono HB2.out.size))
    clear hb c0 c1 HFd1
    rcases hR with ⟨r, Am, cm, hf, rfl, hi⟩ | ⟨hf, rfl⟩
    · rw [← HO.out] at hf
      subst hf
      have HN := Lib.hid (show r.nm = name ∧ r.may.length ≤ 1000 from ⟨by have := List.find?_some HO.out.symm; simpa using this, HM3.out r (List.mem_of_find?_eq_some HO.out.symm)⟩)
      have hbV := below_new (w := w2) (.cells #[.int .i64 r.nm, .slice Am r.may.length cm] 58)
      have hnV := World.alloc_heap_new w2 (.cells #[.int .i64 r.nm, .slice Am r.may.length cm] 58)
      have HIm := Lib.hid (hi.step hbV)
      clear hi
      have HBV := Lib.hid (HB3.out.trans (hbV.mono HB3.out.size))
      have HNV := Lib.hid hnV
      obtain ⟨k, hk⟩ : ∃ k, r.may.length = k := ⟨_, rfl⟩
      rw [hk] at hbV hnV HIm HBV HNV ⊢
      have hlt2 : w2.heap.size < (w2.alloc (.cells #[.int .i64 r.nm, .slice Am k cm] 58)).heap.size := (Array.getElem?_eq_some_iff.1 hnV).1
      have HKl := Lib.hid hk
      clear hk hbV hnV
      go_wp2_with fail
      obtain ⟨V, hV⟩ : ∃ V, w2.alloc (.cells #[.int .i64 r.nm, .slice Am k cm] 58) = V := ⟨_, rfl⟩
      rw [hV] at HIm HBV HNV hlt2 ⊢
      clear hV
      have hws : w.heap.size + 3 ≤ V.heap.size := by have := HBV.out.size; omega
      have HBd := Lib.hid (fun X (hI : Below V.drew.heap.size V.drew X) => (Below.refl V.heap.size V).drew.trans hI)
      have HY := Lib.hid (fun X (h : Below V.heap.size V X) => HX.out X (HBV.out.trans (h.mono HBV.out.size)))
      have HZ := Lib.hid (fun X (h : Below V.heap.size V X) => cells_two ((h.block w2.heap.size (by omega)).trans HNV.out))
      have HBw := Lib.hid (fun X (h : Below V.heap.size V X) => HB0.out.trans ((HB1.out.trans ((HBV.out.trans (h.mono HBV.out.size)).mono HB1.out.size)).mono HB0.out.size))
      refine wp_opaque ?_
      intro t0 ht0
      have hsz0 : t0.size = 30 := by rw [ht0]; rfl
      have t3 : t0.getD 3 undef = .pointer (some ⟨w.heap.size + 1, 0, none⟩) := by rw [ht0]; rfl
      have t4 : t0.getD 4 undef = .pointer (some ⟨w.heap.size + 1 + 1, 0, none⟩) := by rw [ht0]; rfl
      have t7 : t0.getD 7 undef = .pointer (some ⟨w2.heap.size, 0, none⟩) := by rw [ht0]; rfl
      have HT0 := Lib.hid ht0
      clear ht0
      refine wp_region_vals [some 25, some 26, some 27, some 28, some 29, none, some 5] (RyI V.drew w2.heap.size (.int .i64 name) (.slice Am k cm) r.may (fun X => ∃ rv, X.heap[w.heap.size + 1 + 1]? = some (.cells #[.int .i64 name, rv] 58) ∧ Fr w.heap.size X rv r.may ∧ Below w.heap.size w X)) (by kernel_rfl) (by kernel_rfl) rfl rfl (by simp [hsz0]) (by kernel_rfl) ?_ ?_ ?_
      · intro val
        exact ⟨(fun h => nomatch h), (fun h => nomatch h), (fun h => nomatch h), (fun h => nomatch h), fun _ => Below.refl _ _, (fun h => nomatch h), (fun h => nomatch h), (fun h => nomatch h)⟩
      · intro dn q o hi hd hp hc val X a ha hn hI K hK
        have hq : q < 7 := by
          have := (Array.getElem?_eq_some_iff.1 hi).1
          simpa using this
        have c4 : dn 4 = true → dn 0 = true ∧ dn 3 = true := fun h => ⟨hc 4 _ rfl h ⟨0, .data⟩ (by simp) rfl, hc 4 _ rfl h ⟨3, .data⟩ (by simp) rfl⟩
        have c5 : dn 5 = true → dn 4 = true := fun h => hc 5 _ rfl h ⟨4, .data⟩ (by simp) rfl
        have c2 : dn 2 = true → dn 1 = true := fun h => hc 2 _ rfl h ⟨1, .data⟩ (by simp) rfl
        have c3 : dn 3 = true → dn 2 = true := fun h => hc 3 _ rfl h ⟨2, .data⟩ (by simp) rfl
        have bf : ∀ {q : Bool}, (q = true → False) → q = false := fun {q} h => by cases q; rfl; exact (h rfl).elim
        rcases (show q = 0 ∨ q = 1 ∨ q = 2 ∨ q = 3 ∨ q = 4 ∨ q = 5 ∨ q = 6 by omega) with rfl | rfl | rfl | rfl | rfl | rfl | rfl
        · obtain rfl := Option.some.inj hi
          have n5 : dn 5 = false := bf fun h => f_t hd (c4 (c5 h)).1
          exact opLd 3 _ _ rfl ((ha 3).trans t3) (cell_one (HY.out X (HBd.out X (hI.bel n5))).2.1) (hK _ _ hI.op0)
        · obtain rfl := Option.some.inj hi
          exact opFieldR 1 7 _ (by decide) rfl ((ha 7).trans t7) (hK _ _ hI.op1)
        · obtain rfl := Option.some.inj hi
          have y1 := hp ⟨1, .data⟩ (by simp) rfl
          have n5 : dn 5 = false := bf fun h => f_t hd (c3 (c4 (c5 h)).2)
          exact opLdS 26 _ _ rfl ((ha 26).trans (hI.s1 y1)) (HZ.out X (HBd.out X (hI.bel n5))).2 (hK _ _ hI.op2)
        · obtain rfl := Option.some.inj hi
          have y2 := hp ⟨2, .data⟩ (by simp) rfl
          have n4 : dn 4 = false := bf fun h => f_t hd (c4 h).2
          have n5 : dn 5 = false := bf fun h => f_t n4 (c5 h)
          have hB := HBd.out X (hI.bel n5)
          refine opCallCl 27 _ _ rfl ((ha 27).trans (hI.s2 y2)) (clone_any _ r.may X (HIm.out.step hB) (by have := HN.out.2; omega)) ?_
          rintro e Y ⟨u, rfl, hO⟩
          exact ⟨u, rfl, hK _ _ (hI.op3 n4 n5 hO.bel hO.fr)⟩
        · obtain rfl := Option.some.inj hi
          have y0 := hp ⟨0, .data⟩ (by simp) rfl
          have y3 := hp ⟨3, .data⟩ (by simp) rfl
          have n5 : dn 5 = false := bf fun h => f_t hd (c5 h)
          obtain ⟨A5, d5, e5, _⟩ := (hI.e3 y3 n5).1.form
          have hK2 := hK _ _ hI.op4
          rw [e5] at hK2
          exact opBuildR 25 28 _ _ _ _ rfl ((ha 25).trans (hI.s0 y0)) ((ha 28).trans e5) hK2
        · obtain rfl := Option.some.inj hi
          have y4 := hp ⟨4, .data⟩ (by simp) rfl
          obtain ⟨y0, y3⟩ := c4 y4
          have h4 := hI.e4 y4 hd
          have h3 := hI.e3 y3 hd
          have hB := HBd.out X (hI.bel hd)
          obtain ⟨A5, d5, e5, _⟩ := h3.1.form
          rw [e5] at h4 h3
          have hg := (HY.out X hB).2.2
          refine opStoreR 4 29 (w.heap.size + 1 + 1) _ _ _ _ _ _ rfl ((ha 4).trans t4) ((ha 29).trans h4) hg (fun u => hK u _ (hI.op5 (u := u) ?_))
          have hg1 := heap_setCell_same X (w.heap.size + 1 + 1) 0 _ _ (.int .i64 name) hg
          have hg2 := heap_setCell_same _ (w.heap.size + 1 + 1) 1 _ _ (.slice A5 r.may.length d5) hg1
          have hfr : ∀ {u : Value} {M : List Int} {v : Value} {k : Nat} {Z : World}, Fr V.heap.size Z u M → Fr V.heap.size (Z.setCell ⟨w.heap.size + 1 + 1, k, none⟩ v) u M := fun {u M v k Z} h => by
            have hst := setCell_grown' Z (w.heap.size + 1 + 1) k v
            exact ⟨(h.1.keepOwn (w' := Z.setCell ⟨w.heap.size + 1 + 1, k, none⟩ v) fun p hp => by
              have := h.2 _ hp
              exact World.cell?_of_block (hst.block _ this.2 fun e => by injection e with e; omega)).mono hst.size, fun g e => ⟨(h.2 g e).1, Nat.lt_of_lt_of_le (h.2 g e).2 hst.size⟩⟩
          refine ⟨_, hg2, (hfr (hfr h3)).low (by omega), ?_⟩
          exact ((HBw.out X hB).setCell (by show _ ≤ _ + 1 + 1; omega) _).setCell (by show _ ≤ _ + 1 + 1; omega) _
        · obtain rfl := Option.some.inj hi
          exact opAssignK _ rfl (hK _ _ hI.op6)
      · intro dn val X hdn hI
        obtain ⟨rv, h1, h2, h3⟩ := hI.e5 (hdn 5 (by simp))
        have h6 := hI.s6 (hdn 6 (by simp))
        obtain ⟨r0, r1⟩ := cells_two h1
        simp only [wrS, HT0.out]
        simp only [List.setIfInBounds_toArray, List.set_cons_succ, List.set_cons_zero]
        rw [h6]
        simp only [Exit.then]
        clear hdn hI t3 t4 t7 hsz0 HT0 h6
        have HR := Lib.hid (And.intro h2 h3)
        clear h1 h2 h3
        (try go_wp2_with fail)
        (try rw [Exit.noGoto_ret])
        exact bodyPost_ret (v := .tuple #[.agg #[.int .i64 name, rv], .int .i64 0]) (by simp [results, Tryz.results74, go_sem, r0, r1]) rfl ⟨⟨rv, by rw [HN.out.1], HR.out.1⟩, HR.out.2⟩
    · rw [← HO.out] at hf
      subst hf
      have hbV := below_new (w := w2) (.cells #[.int .i64 0, .slice none 0 0] 58)
      have hb4 := HB3.out.trans (hbV.mono HB3.out.size)
      have HB4 := Lib.hid (HB0.out.trans ((HB1.out.trans (hb4.mono HB1.out.size)).mono HB0.out.size))
      obtain ⟨_, _, hr⟩ := HX.out _ hb4
      obtain ⟨r0, r1⟩ := cells_two hr
      have f0 := frozen_cells hr 0
      have f1 := frozen_cells hr 1
      clear hbV hb4 hr
      go_wp2_with fail
      exact bodyPost_ret (v := .tuple #[.agg #[.int .i64 0, .slice none 0 0], .int .i64 1]) (by simp [results, Tryz.results74, go_sem, r0, r1]) rfl ⟨⟨_, rfl, Fr.nil _ _⟩, (HB4.out.setCell (by show _ ≤ _ + 1 + 1; omega) _).setCell (by show _ ≤ _ + 1 + 1; omega) _⟩
end Go.Proofs.YthfegbcbpeedbaaGreatDoor
namespace Go.Ky
open Go.Nm
def remL (L : List Rw) (l : List Int) : List Rw := L.filter fun r => fitsF r.may l
theorem filter_take {α : Type} {p : α → Bool} {L : List α} {i : Nat} {x : α} (h : L[i]? = some x) : (L.take (i + 1)).filter p = (L.take i).filter p ++ (if p x = true then [x] else []) := by
  rw [show L.take (i + 1) = L.take i ++ [x] from by rw [List.take_add_one, h]; rfl, List.filter_append]
  congr 1
  cases hp : p x <;> simp [hp]
def remO (m : Mx) (l : List Int) : List Int := if seenE m [l] = 0 then (remL m.rows l).map (·.nm) else []
def fitE (m : Mx) (name : Int) (l : List Int) : Int := if seenE m [l] = 0 then rowE m name else seenE m [l]
def fitB (m : Mx) (name : Int) (l : List Int) : Bool := if seenE m [l] = 0 ∧ rowE m name = 0 then fitsF (rowF m name).may l else false
theorem seen_ok {m : Mx} {l : List Int} (h : seenE m [l] = 0) : mxF m = true ∧ setsF m.st l = true := by
  unfold seenE at h
  by_cases hm : mxF m = true
  · rw [if_pos hm] at h
    refine ⟨hm, ?_⟩
    by_cases hs : setsF m.st l = true
    · exact hs
    · simp [hs] at h
  · rw [if_neg hm] at h; omega
theorem seen_cases (m : Mx) (LL : List (List Int)) : seenE m LL = 0 ∨ seenE m LL = 30 ∨ seenE m LL = 32 := by
  unfold seenE; split
  · split <;> simp
  · simp
theorem row_cases {m : Mx} {name : Int} (h : mxF m = true) : (rowE m name = 0 ∧ (rowF m name).may.length = m.st.length ∧ rowF m name ∈ m.rows ∧ (rowF m name).nm = name) ∨ (rowE m name = 1 ∧ rowF m name = ⟨0, []⟩) := by
  unfold rowE rowF
  rw [if_pos h, if_pos h]
  cases hr : rowO m name with
  | none => exact .inr ⟨rfl, rfl⟩
  | some r =>
    have hm := List.mem_of_find?_eq_some hr
    have hp := List.find?_some hr
    exact .inl ⟨rfl, mx_may h hm, hm, by simpa using hp⟩
end Go.Ky
namespace Go.Proofs.YthfegbcbpeedbaaGreatDoor
open Go.RowKit Go.Nm Go.Ky

theorem infoR : ∃ i, Tryz.prog.info? 58 = some i ∧ i.zero = some (.agg #[.int .i64 0, .slice none 0 0]) ∧ i.size = 2 ∧ i.bytes = 32 := by
  have h : (Tryz.prog.info? 58).map (fun i => (i.zero, i.size, i.bytes)) = some (some (.agg #[.int .i64 0, .slice none 0 0]), 2, 32) := by kernel_rfl
  cases h2 : Tryz.prog.info? 58 with
  | none => rw [h2] at h; cases h
  | some i =>
    rw [h2] at h
    simp only [Option.map_some, Option.some.injEq, Prod.mk.injEq] at h
    exact ⟨i, rfl, h.1, h.2.1, h.2.2⟩
/-- the cells of some rows -/
def Els (E : Rw → Value → Prop) (L : List Rw) (vals : List Value) : Prop := vals.length = L.length * 2 ∧ ∀ (i : Nat) (x : Rw), L[i]? = some x → ∃ vm, vals[i * 2]? = some (.int .i64 x.nm) ∧ vals[i * 2 + 1]? = some vm ∧ E x vm
theorem Els.nil (E : Rw → Value → Prop) : Els E [] [] := ⟨rfl, fun i x h => by simp at h⟩
theorem Els.snoc {E : Rw → Value → Prop} {L : List Rw} {vals : List Value} (h : Els E L vals) {x : Rw} {vm : Value} (hx : E x vm) : Els E (L ++ [x]) (vals ++ [.int .i64 x.nm, vm]) := by
  refine ⟨by rw [List.length_append, List.length_append, h.1]; simp; omega, fun i y hy => ?_⟩
  by_cases hi : i < L.length
  · rw [List.getElem?_append_left hi] at hy
    obtain ⟨vm, h1, h2, h4⟩ := h.2 i y hy
    have hl := h.1
    exact ⟨vm, (List.getElem?_append_left (by omega)).trans h1, (List.getElem?_append_left (by omega)).trans h2, h4⟩
  · rw [List.getElem?_append_right (by omega)] at hy
    have e1 : i - L.length = 0 := by have := (List.getElem?_eq_some_iff.1 hy).1; simp at this; omega
    rw [e1] at hy
    simp at hy
    subst hy
    have hl := h.1
    have e : i = L.length := by omega
    subst e
    refine ⟨vm, ?_, ?_, hx⟩
    · rw [List.getElem?_append_right (by omega), hl, Nat.sub_self]; rfl
    · rw [List.getElem?_append_right (by omega), hl, show L.length * 2 + 1 - L.length * 2 = 1 by omega]; rfl
/-- a row of rows of the call's own, whose lists lie below -/
structure RmI (W : World) (L : List Rw) (vals : List Value) (vs : Value) (X : World) : Prop where
  bel : Below W.heap.size W X
  own : X.ownsRow W.heap.size 58 2 vs L.length vals
  ele : Els (fun x vm => InSl W W.heap.size vm x.may) L vals
section
variable {W : World} {L : List Rw} {vals : List Value} {vs : Value} {X Y : World}
theorem RmI.start (W : World) : RmI W [] [] (.slice none 0 0) W := ⟨Below.refl _ _, World.ownsRow_nil _ _ _ _, Els.nil _⟩
theorem RmI.step (h : RmI W L vals vs X) (hb : Below X.heap.size X Y) : RmI W L vals vs Y := ⟨h.bel.trans (hb.mono h.bel.size), own_step h.own hb, h.ele⟩
theorem RmI.sl (h : RmI W L vals vs X) : IlSl X X.heap.size vs L := by
  rcases h.own.2 with ⟨e, h0⟩ | ⟨g, cap, cur, e, hb, hg, h1, h2, h3, h4⟩
  · have hl := List.length_eq_zero_iff.1 h0
    subst hl
    rw [e]
    exact IlSl.nil _ _
  · refine ⟨_, _, e, fun i x hx => ?_⟩
    obtain ⟨vm, c0, c1, hv⟩ := h.ele.2 i x hx
    have hc := h.own.cells (g := g) (by rw [e]; rfl)
    refine ⟨⟨g, 0, none⟩, vm, rfl, (Array.getElem?_eq_some_iff.1 hg).1, ?_, ?_, (hv.below h.bel).mono h.bel.size⟩
    · exact hc (i * 2) _ c0
    · rw [add_zero_k]
      have := hc (i * 2 + 1) _ c1
      rw [add_zero_k] at this
      exact this
theorem RmI.slice (h : RmI W L vals vs X) : ∃ A n c, vs = .slice A n c := by
  obtain ⟨A, c, e⟩ := h.sl.form
  exact ⟨A, _, c, e⟩
theorem RmI.lt (h : RmI W L vals vs X) {g : Nat} (e : vs.ownBlock = some g) : W.heap.size ≤ g := (h.own.lt g e).1
theorem wpList_app_rw {ops : Array Oper} {rest : List Oper} {o : Oper} {a : Act} {Q : Exit → Act → World → Prop} {w : World} (hgd : o.guard = none) (s x : Operand) (ho : o.op = .call { callee := .builtin .append, args := #[s, x], argTypes := #[23, 23] })
    {r : Rw} {vm : Value} (hs : a.eval s = vs) (h : RmI W L vals vs w) (g : Nat) (hx : a.eval x = .slice (some ⟨g, 0, none⟩) 1 1) (hc : w.heap[g]? = some (.cells #[.int .i64 r.nm, vm] 58)) (hr : InSl W W.heap.size vm r.may) (hn : L.length ≤ 100000)
    (hK : ∀ v' w', RmI W (L ++ [r]) (vals ++ [.int .i64 r.nm, vm]) v' w' → wpList Tryz.prog ops Q rest (a.put o.dst v') w') : wpList Tryz.prog ops Q (o :: rest) a w := by
  refine wpList_plain hgd fun _ hK2 => ?_
  obtain ⟨Am, cm, rfl, _⟩ := hr.form
  obtain ⟨i0, hi0, hz0, hz1, hz2⟩ := infoR
  obtain ⟨v', w', hr', h2, h3, _, h5⟩ := run_append_own_at (P := Tryz.prog) (w := w) W.heap.size 23 o.type 58 i0 _ 2 32 Tryz.underlying23 hi0 hz0 hz1 hz2 rfl (by decide) vs L.length vals h.own ⟨g, 0, none⟩ 1 1 [.int .i64 r.nm, .slice Am r.may.length cm] rfl
    (fun j u hj => by rw [add_zero_k]; simpa [World.cell?, hc] using hj) (fun u hu => by simp at hu; rcases hu with rfl | rfl <;> rfl) (by unfold maxLen; omega) (by omega) h.bel.size
  unfold Oper.wp execOp
  simp only [ho, resolve, invoke, builtin, Sem.run_bind, Sem.run_pure, Result.andThen_ok, List.map_toArray, List.map_cons, List.map_nil, hs, hx, hr']
  exact hK2 _ _ (hK v' w' ⟨h.bel.grown h3 h.bel.size fun q e => (h.own.lt q e).1, by rw [List.length_append]; exact h2, h.ele.snoc hr⟩)
end
set_option maxRecDepth 100000 in
set_option maxHeartbeats 8000000 in
theorem remaining_any (v u : Value) (L : List Rw) (l : List Int) (w : World) (hv : IlSl w w.heap.size v L) (hu : InSl w w.heap.size u l) (hlen : ∀ r ∈ L, l.length = r.may.length) (hn : L.length ≤ 1000) (hl : l.length ≤ 1000000) :
    Calls Tryz.prog 41 #[v, u] w fun e w' => (∃ vs, e = .returned vs ∧ IlSl w' w'.heap.size vs (remL L l) ∧ ∀ g, vs.ownBlock = some g → w.heap.size ≤ g) ∧ Below w.heap.size w w' := by
  have HU := Lib.hid hv
  have HT := Lib.hid hu
  have HLn := Lib.hid hlen
  have HLl := Lib.hid hl
  obtain ⟨A, c, rfl⟩ := hv.form
  obtain ⟨Au, cu, rfl, _⟩ := hu.form
  obtain ⟨n, h⟩ : ∃ n, L.length = n := ⟨_, rfl⟩
  have HN := Lib.hid h
  obtain ⟨nl, h2⟩ : ∃ nl, l.length = nl := ⟨_, rfl⟩
  rw [h] at HU hn ⊢
  rw [h2] at HT ⊢
  have HR := Lib.hid (show remL L l = L.filter (fun r => fitsF r.may l) from rfl)
  obtain ⟨res, hres⟩ : ∃ res, remL L l = res := ⟨_, rfl⟩
  rw [hres] at HR ⊢
  have HI0 := Lib.hid (RmI.start w)
  clear hv hu hlen hl h h2 hres
  go_enter Tryz.func41, Tryz.ntmps41
  go_wp2_with fail
  go_loopw [5, 10] (fun ov iv wr => ∃ (i : Nat) (vals : List Value) (Ao : Option Addr) (no co : Nat), ov = .slice Ao no co ∧ iv = .int .i64 (i : Int) ∧ i ≤ n ∧ RmI w ((L.take i).filter fun r => fitsF r.may l) vals ov wr) (fun _ iv _ => n - (intOf iv).toNat)
  case atStart => exact ⟨0, [], _, _, _, rfl, rfl, by omega, HI0.out⟩
  case round =>
    obtain ⟨i, vals, Ao, no, co, rfl, rfl, hin, hI⟩ := hrel
    have HI := Lib.hid hI
    clear hI
    by_cases hlt : i < n
    · obtain ⟨r, ad, Am, cm, hr, rfl, hY⟩ := HU.out.at_ hlt
      obtain ⟨⟨d0, d1⟩, _⟩ := hY wr HI.out.bel
      have HMw := Lib.hid (hY w (Below.refl _ _)).2
      have hbx := below_new (w := wr) (.cells #[.int .i64 r.nm, .slice Am r.may.length cm] 58)
      have hnx := World.alloc_heap_new wr (.cells #[.int .i64 r.nm, .slice Am r.may.length cm] 58)
      have HNx := Lib.hid hnx
      have HI2 := Lib.hid (HI.out.step hbx)
      have HFi := Lib.hid (fits_any _ _ r l _ ⟨Am, cm, rfl, (hY _ HI2.out.bel).2⟩ (HT.out.step HI2.out.bel) (HLn.out r (List.mem_of_getElem? hr)) HLl.out)
      have HQ := Lib.hid hr
      have HLq := Lib.hid (show ((L.take i).filter fun r => fitsF r.may l).length ≤ 100000 from by
        have h1 := List.length_filter_le (fun r : Rw => fitsF r.may l) (L.take i)
        have h2 := List.length_take_le i L
        omega)
      have hgx : wr.heap.size < (wr.alloc (.cells #[.int .i64 r.nm, .slice Am r.may.length cm] 58)).heap.size := (Array.getElem?_eq_some_iff.1 hnx).1
      clear hr hY hbx hnx
      go_wp2_with fail
      (with_reducible refine HFi.out.mono ?_)
      rintro e w3 ⟨rfl, hb⟩
      have HI3 := Lib.hid (HI2.out.step hb)
      have hn3 := (hb.block _ hgx).trans HNx.out
      obtain ⟨k0, k1⟩ := cells_two hn3
      clear hb HFi d0 d1 hn3 hgx
      cases hf : fitsF r.may l with
      | true =>
        have HP := Lib.hid (show (L.take (i + 1)).filter (fun r => fitsF r.may l) = (L.take i).filter (fun r => fitsF r.may l) ++ [r] from by rw [filter_take HQ.out, if_pos hf])
        clear hf
        go_wp2_with (at_builtin; refine wpList_app_rw (vm := .slice Am r.may.length cm) (r := r) rfl _ _ rfl rfl (HI3.out.step (below_new _)) w3.heap.size rfl (World.alloc_heap_new _ _) HMw.out HLq.out ?_; intro v6 w6 hI6; obtain ⟨A6, n6, c6, rfl⟩ := hI6.slice; have HI6 := Lib.hid hI6; clear hI6)
        go_roundw
        case rel => exact ⟨i + 1, _, _, _, _, rfl, by go_num, by omega, by rw [HP.out]; exact HI6.out⟩
        case measure => simp [intOf]; omega
      | false =>
        have HP := Lib.hid (show (L.take (i + 1)).filter (fun r => fitsF r.may l) = (L.take i).filter (fun r => fitsF r.may l) from by rw [filter_take HQ.out, if_neg (by rw [hf]; simp)]; simp)
        clear hf
        go_wp2_with fail
        go_roundw
        case rel => exact ⟨i + 1, _, _, _, _, rfl, by go_num, by omega, by rw [HP.out]; exact HI3.out⟩
        case measure => simp [intOf]; omega
    · obtain rfl : n = i := by omega
      have HF := Lib.hid (show (L.take n).filter (fun r => fitsF r.may l) = res from by rw [HR.out, List.take_of_length_le (by have := HN.out; omega)])
      have HI2 := Lib.hid HI.out
      rw [HF.out] at HI2
      go_wp2_with fail
      go_ret
      exact ⟨⟨_, rfl, HI2.out.sl, fun g e => HI2.out.lt e⟩, HI2.out.bel⟩
end Go.Proofs.YthfegbcbpeedbaaGreatDoor
namespace Go.Proofs.YthfegbcbpeedbaaGreatDoor
open Go.RowKit Go.Nm Go.Ky

set_option maxRecDepth 100000 in
set_option maxHeartbeats 8000000 in
theorem Remain_any (v u : Value) (m : Mx) (l : List Int) (w : World) (hv : MxV w v m) (hs : MSm m) (hu : InSl w w.heap.size u l) (hl : l.length ≤ 1000000) :
    Calls Tryz.prog 17 #[v, u] w fun e w' => (∃ r, e = .returned (.tuple #[r, .int .i64 (seenE m [l])]) ∧ InSl w' w'.heap.size r (remO m l) ∧ ∀ g, r.ownBlock = some g → w.heap.size ≤ g) ∧ Below w.heap.size w w' := by
  obtain ⟨A1, c1, A2, c2, W0, rfl, hW0, hb0, hM, hS, hR, hX⟩ := mx_box hv
  have HB0 := Lib.hid hb0
  have HW0 := Lib.hid hW0
  have hu0 := hu.step hb0
  obtain ⟨Au, cu, rfl, _⟩ := hu0.form
  have hb1 := below_new (w := W0) (.cells #[.slice Au l.length cu] 22)
  have HB1 := Lib.hid hb1
  have HC := Lib.hid (checkSeen_any _ _ m [l] _ (hM _ hb1) hs (one_box hu0) (by intro L hL; simp at hL; subst hL; exact hl) (by simp))
  obtain ⟨k0, k1⟩ := hX W0 (Below.refl _ _)
  obtain ⟨d0, d1⟩ := hX _ hb1
  have HX := Lib.hid hX
  have HRm := Lib.hid (fun (hm : mxF m = true ∧ setsF m.st l = true) Y (h : Below W0.heap.size W0 Y) => remaining_any _ _ m.rows l Y (hR Y h) (hu0.step h) (fun r hr => by rw [mx_may hm.1 hr]; exact sets_len hm.2) hs.2.1 hl)
  have HNl := Lib.hid (show (remL m.rows l).length ≤ 100000 from by have := List.length_filter_le (fun r : Rw => fitsF r.may l) m.rows; have := hs.2.1; unfold remL; omega)
  obtain ⟨er, hr⟩ : ∃ r, seenE m [l] = r := ⟨_, rfl⟩
  have HE := Lib.hid (show er = 0 ∨ er = 30 ∨ er = 32 from by rw [← hr]; exact seen_cases m [l])
  have hz : W0.heap.size = w.heap.size + 1 := by rw [← hW0]; simp
  rw [hz] at HC
  have HO := Lib.hid (show remO m l = if er = 0 then (remL m.rows l).map (·.nm) else [] from by unfold remO; rw [hr])
  have HG := Lib.hid (show er = 0 → mxF m = true ∧ setsF m.st l = true from fun h => seen_ok (by rw [hr]; exact h))
  rw [hr] at HC ⊢
  rw [HO.out]
  generalize m.st.length = ns at *
  generalize m.rows.length = nr at *
  obtain ⟨n, hn⟩ : ∃ n, l.length = n := ⟨_, rfl⟩
  rw [hn] at HC HB1 HRm d0 d1 ⊢
  clear hv hu hu0 hW0 hb0 hM hS hR hX hl hr hs hb1 hz HO hn
  go_enter Tryz.func17, Tryz.ntmps17
  go_wp2_with fail
  rw [HW0.out]
  go_wp2_with fail
  (with_reducible refine HC.out.mono ?_)
  rintro e w1 ⟨rfl, hb⟩
  have HB2 := Lib.hid (HB1.out.trans (hb.mono HB1.out.size))
  clear hb k0 k1 d0 d1 HC
  rcases HE.out with rfl | rfl | rfl
  · obtain ⟨k0, k1⟩ := HX.out w1 HB2.out
    have HR1 := Lib.hid (HRm.out (HG.out rfl) w1 HB2.out)
    clear HRm HG HE
    go_wp2_with fail
    (with_reducible refine HR1.out.mono ?_)
    rintro e w2 ⟨⟨vs, rfl, hvs, _⟩, hb⟩
    have HB3 := Lib.hid (HB2.out.trans (hb.mono HB2.out.size))
    have HNo := Lib.hid (namesOf_any _ _ w2 hvs HNl.out)
    obtain ⟨Av, cv, rfl⟩ := hvs.form
    generalize (remL m.rows l).length = q at *
    clear hvs hb k0 k1 HR1
    go_wp2_with fail
    (with_reducible refine HNo.out.mono ?_)
    rintro e w3 ⟨⟨r, rfl, hr, ho⟩, hb⟩
    have HB4 := Lib.hid (HB3.out.trans (hb.mono HB3.out.size))
    have HR := Lib.hid (And.intro hr ho)
    clear hr ho hb HNo
    go_wp2_with fail
    go_ret2
    exact ⟨⟨_, rfl, HR.out.1, fun g e => Nat.le_trans (Nat.le_trans HB0.out.size HB3.out.size) (HR.out.2 g e)⟩, HB0.out.trans (HB4.out.mono HB0.out.size)⟩
  · go_wp2_with fail
    go_ret2
    exact ⟨⟨_, rfl, InSl.nil _ _, fun g e => by cases e⟩, HB0.out.trans (HB2.out.mono HB0.out.size)⟩
  · go_wp2_with fail
    go_ret2
    exact ⟨⟨_, rfl, InSl.nil _ _, fun g e => by cases e⟩, HB0.out.trans (HB2.out.mono HB0.out.size)⟩
end Go.Proofs.YthfegbcbpeedbaaGreatDoor
