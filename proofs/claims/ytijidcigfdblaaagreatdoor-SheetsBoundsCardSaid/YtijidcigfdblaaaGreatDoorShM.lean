/- Sheets as mathematics: what is valid, sums, the rest, tight bounds. -/
import Derived.Test.YtijidcigfdblaaaGreatDoorShPa
namespace Go.Sh
open Go.Plc Go.Nm
structure Ln where
  nm : Int
  lo : Int
  hi : Int
  sn : List Int
structure Pg where
  ob : Int
  yr : Int
  lv : Int
  sx : Int
  sy : Int
  nt : Int
  lm : Int
  lo : Int
  hi : Int
  ls : List Ln
def betB (n a b : Int) : Bool := decide (a ≤ n) && decide (n ≤ b)
def idB (n : Int) : Bool := betB n 1 65535
def cntB (lo hi : Int) : Bool := (decide (0 ≤ lo) && decide (lo ≤ hi)) && decide (hi ≤ 100000)
def setB (l : List Int) : Bool := l.all (fun x => betB x 1 65535) && decide (l.length ≤ 64)
def lnB (x : Ln) : Bool := (idB x.nm && cntB x.lo x.hi) && setB x.sn
def fbF : List Ln → Int → Int
  | [], _ => 0
  | x :: l, i => if lnB x = true then fbF l (i + 1) else 5 + i
def hdB (p : Pg) : Bool := (idB p.ob && idB p.lm) && betB p.yr 0 273
def sqB (p : Pg) : Bool := decide (p.lv = 0) && Sq.okB ⟨p.lv, p.sx, p.sy⟩
def faultF (p : Pg) : Int := if hdB p = true then (if sqB p = true then (if betB p.nt 0 99999 = true then (if cntB p.lo p.hi = true then fbF p.ls 0 else 4) else 3) else 2) else 1
def chkE (p : Pg) : Int := if 200 < p.ls.length then 2 else if faultF p = 0 then 0 else 40
def chkN (p : Pg) : Int := if 200 < p.ls.length then 0 else faultF p
def okP (p : Pg) : Bool := decide (chkE p = 0)
theorem fb_hit : ∀ {l : List Ln} {i : Nat} {x : Ln} (c : Int), l[i]? = some x → lnB x = false → (∀ (j : Nat) (y : Ln), j < i → l[j]? = some y → lnB y = true) → fbF l c = 5 + (c + i)
  | [], i, x, c, h, _, _ => by simp at h
  | y :: l, 0, x, c, h, hx, _ => by
    simp only [List.getElem?_cons_zero, Option.some.injEq] at h
    subst h
    unfold fbF; rw [if_neg (by rw [hx]; simp)]; simp
  | y :: l, i + 1, x, c, h, hx, hb => by
    have ih := fb_hit (l := l) (i := i) (x := x) (c + 1) (by simpa using h) hx (fun j z hj hz => hb (j + 1) z (by omega) (by simpa using hz))
    unfold fbF; rw [if_pos (hb 0 y (by omega) rfl), ih]
    omega
theorem fb_all : ∀ {l : List Ln} (c : Int), (∀ (j : Nat) (y : Ln), j < l.length → l[j]? = some y → lnB y = true) → fbF l c = 0
  | [], _, _ => rfl
  | y :: l, c, h => by
    unfold fbF; rw [if_pos (h 0 y (by simp) rfl)]
    exact fb_all (l := l) (c + 1) (fun j z hj hz => h (j + 1) z (by simp; omega) (by simpa using hz))
theorem fb_zero : ∀ {l : List Ln} {c : Int}, 0 ≤ c → fbF l c = 0 → ∀ x ∈ l, lnB x = true
  | [], _, _, _, x, h => by simp at h
  | y :: l, c, h0, h, x, hx => by
    unfold fbF at h
    by_cases hy : lnB y = true
    · rw [if_pos hy] at h
      rcases List.mem_cons.1 hx with rfl | h2
      · exact hy
      · exact fb_zero (c := c + 1) (by omega) h x h2
    · rw [if_neg hy] at h; omega
theorem fb_nn : ∀ (l : List Ln) {c : Int}, 0 ≤ c → 0 ≤ fbF l c
  | [], _, _ => by unfold fbF; omega
  | y :: l, c, h => by unfold fbF; split; exact fb_nn l (by omega); omega
/-- what a valid sheet is -/
structure PgOk (p : Pg) : Prop where
  len : p.ls.length ≤ 200
  hd : hdB p = true
  sq : sqB p = true
  nt : betB p.nt 0 99999 = true
  cn : cntB p.lo p.hi = true
  ln : ∀ x ∈ p.ls, lnB x = true
theorem ok_iff {p : Pg} : okP p = true ↔ PgOk p := by
  unfold okP chkE
  rw [decide_eq_true_eq]
  constructor
  · intro h
    by_cases h1 : 200 < p.ls.length
    · rw [if_pos h1] at h; omega
    · rw [if_neg h1] at h
      by_cases h2 : faultF p = 0
      · unfold faultF at h2
        by_cases a1 : hdB p = true
        · rw [if_pos a1] at h2
          by_cases a2 : sqB p = true
          · rw [if_pos a2] at h2
            by_cases a3 : betB p.nt 0 99999 = true
            · rw [if_pos a3] at h2
              by_cases a4 : cntB p.lo p.hi = true
              · rw [if_pos a4] at h2
                exact ⟨by omega, a1, a2, a3, a4, fb_zero (Int.le_refl 0) h2⟩
              · rw [if_neg a4] at h2; omega
            · rw [if_neg a3] at h2; omega
          · rw [if_neg a2] at h2; omega
        · rw [if_neg a1] at h2; omega
      · rw [if_neg h2] at h; omega
  · rintro ⟨h1, h2, h3, h4, h5, h6⟩
    have hf : faultF p = 0 := by
      unfold faultF
      rw [if_pos h2, if_pos h3, if_pos h4, if_pos h5]
      exact fb_all 0 fun j y _ hy => h6 y (List.mem_of_getElem? hy)
    rw [if_neg (by omega), if_pos hf]
theorem chk_cases (p : Pg) : chkE p = 0 ∨ chkE p = 2 ∨ chkE p = 40 := by
  unfold chkE
  split
  · exact .inr (.inl rfl)
  · split
    · exact .inl rfl
    · exact .inr (.inr rfl)
def valE (p : Pg) : Int := if okP p = true then 0 else 40
/-- sums of counts -/
def sLo (l : List Ln) : Int := l.foldl (fun a x => a + x.lo) 0
def sHi (l : List Ln) : Int := l.foldl (fun a x => a + x.hi) 0
theorem cnt_rng {lo hi : Int} (h : cntB lo hi = true) : 0 ≤ lo ∧ lo ≤ hi ∧ hi ≤ 100000 := by
  unfold cntB at h
  simp only [Bool.and_eq_true, decide_eq_true_eq] at h
  omega
theorem ln_cnt {x : Ln} (h : lnB x = true) : 0 ≤ x.lo ∧ x.lo ≤ x.hi ∧ x.hi ≤ 100000 := by
  unfold lnB at h
  rw [Bool.and_eq_true, Bool.and_eq_true] at h
  exact cnt_rng h.1.2
theorem fold_take {α : Type} {f : Int → α → Int} {l : List α} {i : Nat} {x : α} (h : l[i]? = some x) : (l.take (i + 1)).foldl f 0 = f ((l.take i).foldl f 0) x := by
  rw [show l.take (i + 1) = l.take i ++ [x] from by rw [List.take_add_one, h]; rfl, List.foldl_append]; rfl
theorem sum_bd {l : List Ln} (h : ∀ x ∈ l, lnB x = true) : ∀ i, i ≤ l.length → 0 ≤ sLo (l.take i) ∧ sLo (l.take i) ≤ sHi (l.take i) ∧ sHi (l.take i) ≤ (i : Int) * 100000
  | 0, _ => by show 0 ≤ (0 : Int) ∧ (0 : Int) ≤ 0 ∧ (0 : Int) ≤ 0 * 100000; omega
  | i + 1, hi => by
    have ih := sum_bd h i (by omega)
    obtain ⟨x, hx⟩ : ∃ x, l[i]? = some x := ⟨_, List.getElem?_eq_getElem (by omega)⟩
    have hc := ln_cnt (h x (List.mem_of_getElem? hx))
    have e1 : sLo (l.take (i + 1)) = sLo (l.take i) + x.lo := fold_take hx
    have e2 : sHi (l.take (i + 1)) = sHi (l.take i) + x.hi := fold_take hx
    omega
def agE (p : Pg) : Int := if okP p = true then (if sLo p.ls ≤ p.hi then 0 else 3) else 40
def tgL (p : Pg) (x : Ln) : Ln := ⟨x.nm, x.lo, min x.hi (p.hi - (sLo p.ls - x.lo)), x.sn⟩
def tight (p : Pg) : Pg := ⟨p.ob, p.yr, p.lv, p.sx, p.sy, p.nt, p.lm, max p.lo (sLo p.ls), p.hi, p.ls.map (tgL p)⟩
end Go.Sh
