/- Books and histories in memory. -/
import Derived.Test.YtplpogonkfnafaaNmH
import Derived.RangeFuncBox
namespace Go.Proofs.Ytplpogonkfnafaa
open Go.RowKit Go.Nm

/-- from the address on lie the changes, in memory below block B -/
def ChA (w : World) (B : Nat) (A : Option Addr) (L : List Ch) : Prop :=
  ∀ (i : Nat) (x : Ch), L[i]? = some x → ∃ ad vf vt, A = some ad ∧ ad.block < B ∧ w.cell? (ad.add (i * 3)) = some (.int .i64 x.yr) ∧
    w.cell? ⟨(ad.add (i * 3)).block, (ad.add (i * 3)).off + 1, none⟩ = some vf ∧ w.cell? ⟨(ad.add (i * 3)).block, (ad.add (i * 3)).off + 2, none⟩ = some vt ∧ InSl w B vf x.fr ∧ InSl w B vt x.to
def ChSl (w : World) (B : Nat) (v : Value) (L : List Ch) : Prop := ∃ A c, v = .slice A L.length c ∧ ChA w B A L
/-- the value is a book -/
def BkV (w : World) (v : Value) (b : Bk) (v2 : Value) : Prop := ∃ v1, v = .agg #[v1, v2] ∧ InSl w w.heap.size v1 b.first ∧ ChSl w w.heap.size v2 b.chs
/-- a book is small -/
def Sm (b : Bk) : Prop := b.first.length ≤ 1000 ∧ b.chs.length ≤ 1000 ∧ ∀ x ∈ b.chs, x.fr.length ≤ 1000 ∧ x.to.length ≤ 1000
/-- values are slices of these lists -/
def VsA (w : World) (B : Nat) (vals : List Value) (LL : List (List Int)) : Prop := vals.length = LL.length ∧ ∀ (i : Nat) (v : Value) (L : List Int), vals[i]? = some v → LL[i]? = some L → InSl w B v L
def VsSl (w : World) (B : Nat) (v : Value) (LL : List (List Int)) : Prop :=
  ∃ A c vals, v = .slice A LL.length c ∧ VsA w B vals LL ∧ ∀ (i : Nat) (u : Value), vals[i]? = some u → ∃ ad, A = some ad ∧ ad.block < B ∧ w.cell? (ad.add i) = some u
def HsV (w : World) (v : Value) (b : Bk) (vc : Value) : Prop := ∃ vs, v = .agg #[vs, vc] ∧ VsSl w w.heap.size vs (vers b) ∧ ChSl w w.heap.size vc b.chs
section
variable {w w' : World} {B B' : Nat} {A : Option Addr} {L : List Ch} {v : Value} {LL : List (List Int)} {vals : List Value} {b : Bk}
theorem ChA.below (h : ChA w B A L) (hb : Below B w w') : ChA w' B A L := by
  intro i x hx
  obtain ⟨ad, vf, vt, ha, hB, h1, h2, h3, h4, h5⟩ := h i x hx
  exact ⟨ad, vf, vt, ha, hB, (hb.cell (by rw [add_block]; exact hB)).trans h1, (hb.cell (p := ⟨(ad.add (i * 3)).block, _, none⟩) (by show (ad.add (i * 3)).block < B; rw [add_block]; exact hB)).trans h2, (hb.cell (p := ⟨(ad.add (i * 3)).block, _, none⟩) (by show (ad.add (i * 3)).block < B; rw [add_block]; exact hB)).trans h3, h4.below hb, h5.below hb⟩
theorem ChA.mono (h : ChA w B A L) (hB : B ≤ B') : ChA w B' A L := by
  intro i x hx
  obtain ⟨ad, vf, vt, ha, hb, h1, h2, h3, h4, h5⟩ := h i x hx
  exact ⟨ad, vf, vt, ha, by omega, h1, h2, h3, h4.mono hB, h5.mono hB⟩
theorem ChSl.below (h : ChSl w B v L) (hb : Below B w w') : ChSl w' B v L := by
  obtain ⟨A, c, e, h⟩ := h; exact ⟨A, c, e, h.below hb⟩
theorem ChSl.mono (h : ChSl w B v L) (hB : B ≤ B') : ChSl w B' v L := by
  obtain ⟨A, c, e, h⟩ := h; exact ⟨A, c, e, h.mono hB⟩
theorem ChSl.step (h : ChSl w w.heap.size v L) (hb : Below w.heap.size w w') : ChSl w' w'.heap.size v L := (h.below hb).mono hb.size
theorem BkV.step {vc : Value} (h : BkV w v b vc) (hb : Below w.heap.size w w') : BkV w' v b vc := by
  obtain ⟨v1, e, h1, h2⟩ := h; exact ⟨v1, e, h1.step hb, h2.step hb⟩
theorem VsA.below (h : VsA w B vals LL) (hb : Below B w w') : VsA w' B vals LL := ⟨h.1, fun i v L h1 h2 => (h.2 i v L h1 h2).below hb⟩
theorem VsA.mono (h : VsA w B vals LL) (hB : B ≤ B') : VsA w B' vals LL := ⟨h.1, fun i v L h1 h2 => (h.2 i v L h1 h2).mono hB⟩
theorem VsSl.below (h : VsSl w B v LL) (hb : Below B w w') : VsSl w' B v LL := by
  obtain ⟨A, c, vals, e, h1, h2⟩ := h
  exact ⟨A, c, vals, e, h1.below hb, fun i u hu => by
    obtain ⟨ad, ha, hB, hc⟩ := h2 i u hu
    exact ⟨ad, ha, hB, (hb.cell (by rw [add_block]; exact hB)).trans hc⟩⟩
theorem VsSl.mono (h : VsSl w B v LL) (hB : B ≤ B') : VsSl w B' v LL := by
  obtain ⟨A, c, vals, e, h1, h2⟩ := h
  exact ⟨A, c, vals, e, h1.mono hB, fun i u hu => by
    obtain ⟨ad, ha, hb, hc⟩ := h2 i u hu
    exact ⟨ad, ha, by omega, hc⟩⟩
theorem HsV.step {vc : Value} (h : HsV w v b vc) (hb : Below w.heap.size w w') : HsV w' v b vc := by
  obtain ⟨vs, e, h1, h2⟩ := h; exact ⟨vs, e, (h1.below hb).mono hb.size, h2.step hb⟩
/-- the version that is read -/
theorem VsSl.at_ {n c : Nat} (h : VsSl w B (.slice A n c) LL) {i : Nat} (hi : i < n) : ∃ ad u L, A = some ad ∧ ad.block < B ∧ LL[i]? = some L ∧ w.cell? (ad.add i) = some u ∧ InSl w B u L := by
  obtain ⟨A', c', vals, e, h1, h2⟩ := h
  injection e with e1 e2 e3
  subst e1; subst e2
  have hv : i < vals.length := by rw [h1.1]; exact hi
  obtain ⟨ad, ha, hb, hc⟩ := h2 i _ (List.getElem?_eq_getElem hv)
  exact ⟨ad, _, LL[i], ha, hb, List.getElem?_eq_getElem hi, hc, h1.2 i _ _ (List.getElem?_eq_getElem hv) (List.getElem?_eq_getElem hi)⟩
theorem VsSl.form (h : VsSl w B v LL) : ∃ A c, v = .slice A LL.length c := by
  obtain ⟨A, c, vals, e, _⟩ := h; exact ⟨A, c, e⟩
theorem ChSl.form (h : ChSl w B v L) : ∃ A c, v = .slice A L.length c := by
  obtain ⟨A, c, e, _⟩ := h; exact ⟨A, c, e⟩
end
end Go.Proofs.Ytplpogonkfnafaa
