/- Sheets in memory. -/
import Derived.Test.YtijidcigfdblaaaGreatDoorShM
namespace Go.Proofs.YtijidcigfdblaaaGreatDoor
open Go.RowKit Go.Nm Go.Sh

def LnA (w : World) (B : Nat) (A : Option Addr) (L : List Ln) : Prop :=
  ∀ (i : Nat) (x : Ln), L[i]? = some x → ∃ ad v, A = some ad ∧ ad.block < B ∧ w.cell? (ad.add (i * 4)) = some (.int .i64 x.nm) ∧ w.cell? ⟨(ad.add (i * 4)).block, (ad.add (i * 4)).off + 1, none⟩ = some (.int .i64 x.lo) ∧
    w.cell? ⟨(ad.add (i * 4)).block, (ad.add (i * 4)).off + 2, none⟩ = some (.int .i64 x.hi) ∧ w.cell? ⟨(ad.add (i * 4)).block, (ad.add (i * 4)).off + 3, none⟩ = some v ∧ InSl w B v x.sn
def LnSl (w : World) (B : Nat) (v : Value) (L : List Ln) : Prop := ∃ A c, v = .slice A L.length c ∧ LnA w B A L
section
variable {w w' : World} {B B' : Nat} {A : Option Addr} {L : List Ln} {v : Value}
theorem LnA.below (h : LnA w B A L) (hb : Below B w w') : LnA w' B A L := fun i c hc => by
  obtain ⟨ad, v, e, h1, h2, h3, h4, h5, h6⟩ := h i c hc
  have hB : (ad.add (i * 4)).block < B := by rw [add_block]; exact h1
  exact ⟨ad, v, e, h1, (hb.cell hB).trans h2, (hb.cell (p := ⟨(ad.add (i * 4)).block, _, none⟩) hB).trans h3, (hb.cell (p := ⟨(ad.add (i * 4)).block, _, none⟩) hB).trans h4, (hb.cell (p := ⟨(ad.add (i * 4)).block, _, none⟩) hB).trans h5, h6.below hb⟩
theorem LnA.mono (h : LnA w B A L) (hB : B ≤ B') : LnA w B' A L := fun i c hc => by
  obtain ⟨ad, v, e, h1, h2, h3, h4, h5, h6⟩ := h i c hc
  exact ⟨ad, v, e, by omega, h2, h3, h4, h5, h6.mono hB⟩
theorem LnSl.below (h : LnSl w B v L) (hb : Below B w w') : LnSl w' B v L := by
  obtain ⟨A, c, e, h⟩ := h; exact ⟨A, c, e, h.below hb⟩
theorem LnSl.mono (h : LnSl w B v L) (hB : B ≤ B') : LnSl w B' v L := by
  obtain ⟨A, c, e, h⟩ := h; exact ⟨A, c, e, h.mono hB⟩
theorem LnSl.step (h : LnSl w w.heap.size v L) (hb : Below w.heap.size w w') : LnSl w' w'.heap.size v L := (h.below hb).mono hb.size
theorem LnSl.form (h : LnSl w B v L) : ∃ A c, v = .slice A L.length c := by
  obtain ⟨A, c, e, _⟩ := h; exact ⟨A, c, e⟩
theorem LnSl.nil (w : World) (B : Nat) : LnSl w B (.slice none 0 0) [] := ⟨none, 0, rfl, fun i c h => by simp at h⟩
/-- the cells of a line at p -/
def LnC (Y : World) (p : Addr) (x : Ln) (As : Option Addr) (cs : Nat) : Prop :=
  (Y.cell? p = some (.int .i64 x.nm) ∧ Y.cell? ⟨p.block, p.off + 1, none⟩ = some (.int .i64 x.lo) ∧ Y.cell? ⟨p.block, p.off + 2, none⟩ = some (.int .i64 x.hi) ∧ Y.cell? ⟨p.block, p.off + 3, none⟩ = some (.slice As x.sn.length cs)) ∧ InSl Y Y.heap.size (.slice As x.sn.length cs) x.sn
/-- a line, at every later world -/
theorem LnSl.at_ {n c : Nat} (h : LnSl w w.heap.size (.slice A n c) L) {i : Nat} (hi : i < n) : ∃ x ad As cs, L[i]? = some x ∧ A = some ad ∧ ∀ Y, Below w.heap.size w Y → LnC Y (ad.add (i * 4)) x As cs := by
  obtain ⟨A', c', e, h2⟩ := h
  injection e with e1 e2 e3
  subst e1; subst e3
  have hi' : i < L.length := by omega
  have hr : L[i]? = some L[i] := List.getElem?_eq_getElem hi'
  obtain ⟨ad, v, e, h3, h4, h5, h6, h7, h8⟩ := h2 i _ hr
  obtain ⟨Am, cm, rfl, _⟩ := h8.form
  have hB : (ad.add (i * 4)).block < w.heap.size := by rw [add_block]; exact h3
  exact ⟨_, ad, Am, cm, hr, e, fun Y hY => ⟨⟨(hY.cell hB).trans h4, (hY.cell (p := ⟨(ad.add (i * 4)).block, _, none⟩) hB).trans h5, (hY.cell (p := ⟨(ad.add (i * 4)).block, _, none⟩) hB).trans h6, (hY.cell (p := ⟨(ad.add (i * 4)).block, _, none⟩) hB).trans h7⟩, h8.step hY⟩⟩
end
/-- the value of a line and of a sheet -/
def lnV (x : Ln) (vs : Value) : Value := .agg #[.int .i64 x.nm, .int .i64 x.lo, .int .i64 x.hi, vs]
def pgV (p : Pg) (vl : Value) : Value := .agg #[.int .i64 p.ob, .int .i64 p.yr, .int .i64 p.lv, .int .i64 p.sx, .int .i64 p.sy, .int .i64 p.nt, .int .i64 p.lm, .int .i64 p.lo, .int .i64 p.hi, vl]
def pgC (p : Pg) (vl : Value) : Array Value := #[.int .i64 p.ob, .int .i64 p.yr, .int .i64 p.lv, .int .i64 p.sx, .int .i64 p.sy, .int .i64 p.nt, .int .i64 p.lm, .int .i64 p.lo, .int .i64 p.hi, vl]
/-- v is a sheet -/
def PgV (w : World) (v : Value) (p : Pg) : Prop := ∃ vl, v = pgV p vl ∧ LnSl w w.heap.size vl p.ls
theorem PgV.step {w w' : World} {v : Value} {p : Pg} (h : PgV w v p) (hb : Below w.heap.size w w') : PgV w' v p := by
  obtain ⟨vl, e, h1⟩ := h; exact ⟨vl, e, h1.step hb⟩
/-- the cells of a sheet's box -/
def PgC (Y : World) (g : Nat) (p : Pg) (vl : Value) : Prop :=
  Y.cell? ⟨g, 0, none⟩ = some (.int .i64 p.ob) ∧ Y.cell? ⟨g, 1, none⟩ = some (.int .i64 p.yr) ∧ Y.cell? ⟨g, 2, none⟩ = some (.int .i64 p.lv) ∧ Y.cell? ⟨g, 3, none⟩ = some (.int .i64 p.sx) ∧ Y.cell? ⟨g, 4, none⟩ = some (.int .i64 p.sy) ∧
  Y.cell? ⟨g, 5, none⟩ = some (.int .i64 p.nt) ∧ Y.cell? ⟨g, 6, none⟩ = some (.int .i64 p.lm) ∧ Y.cell? ⟨g, 7, none⟩ = some (.int .i64 p.lo) ∧ Y.cell? ⟨g, 8, none⟩ = some (.int .i64 p.hi) ∧ Y.cell? ⟨g, 9, none⟩ = some vl
theorem pg_cells {Y : World} {g : Nat} {p : Pg} {vl : Value} (h : Y.heap[g]? = some (.cells (pgC p vl) 28)) : PgC Y g p vl := by
  unfold PgC World.cell?
  simp only [h]
  exact ⟨rfl, rfl, rfl, rfl, rfl, rfl, rfl, rfl, rfl, rfl⟩
theorem pg_box {w : World} {v : Value} {p : Pg} (hv : PgV w v p) : ∃ (A : Option Addr) (c : Nat) (W0 : World), v = pgV p (.slice A p.ls.length c) ∧ w.alloc (.cells (pgC p (.slice A p.ls.length c)) 28) = W0 ∧ Below w.heap.size w W0 ∧ W0.heap.size = w.heap.size + 1 ∧
    (∀ Y, Below W0.heap.size W0 Y → PgV Y (pgV p (.slice A p.ls.length c)) p) ∧ (∀ Y, Below W0.heap.size W0 Y → LnSl Y Y.heap.size (.slice A p.ls.length c) p.ls) ∧ ∀ Y, Below W0.heap.size W0 Y → PgC Y w.heap.size p (.slice A p.ls.length c) := by
  have hv0 := hv
  obtain ⟨vl, rfl, h1⟩ := hv
  obtain ⟨A, c, rfl⟩ := h1.form
  have hb := below_new (w := w) (.cells (pgC p (.slice A p.ls.length c)) 28)
  have hn := World.alloc_heap_new w (.cells (pgC p (.slice A p.ls.length c)) 28)
  exact ⟨A, c, _, rfl, rfl, hb, by simp, fun Y h => (hv0.step hb).step h, fun Y h => (h1.step hb).step h, fun Y h => pg_cells ((h.block _ (Array.getElem?_eq_some_iff.1 hn).1).trans hn)⟩
end Go.Proofs.YtijidcigfdblaaaGreatDoor
