
/- Texts that are read back, as mathematics. -/
import Derived.Test.YtabolonlkocopaaGreatDoorPsq
import Derived.RegionTactic
import Derived.ChangeAlike
namespace Go.Proofs.YtabolonlkocopaaGreatDoor
open Go.RowKit Go.Plc

theorem dig_nat {k : Nat} (h : k < 10) : (UInt8.ofNat (48 + k)).toNat = 48 + k := by
  rw [UInt8.toNat_ofNat']; omega
theorem nums_digit (marks r : List UInt8) (pre : List Int) (x : Int) {k : Nat} (hk : k < 10) (hx : 10 * x + k ≤ 9999) : numsRun marks (UInt8.ofNat (48 + k) :: r) pre x = numsRun marks r pre (10 * x + k) := by
  have e : ((48 + k : Nat) : Int) - 48 = k := by omega
  rw [numsRun, dig_nat hk, if_pos (by omega), e, if_neg (by omega)]
theorem nums_digits (marks : List UInt8) (pre : List Int) : ∀ (u : Nat) (r : List UInt8) (x : Int), 0 ≤ x → (10 ^ Lib.nDigits u : Nat) * x + u ≤ 9999 → numsRun marks (Lib.decDigits u ++ r) pre x = numsRun marks r pre ((10 ^ Lib.nDigits u : Nat) * x + u) := by
  intro u
  induction u using Nat.strongRecOn with
  | _ u ih =>
    intro r x hx h
    by_cases hu : u < 10
    · rw [Lib.nDigits_small hu] at h ⊢
      rw [Lib.decDigits_one hu]
      simp only [Nat.pow_one, List.cons_append, List.nil_append] at h ⊢
      exact nums_digit marks r pre x hu h
    · rw [Lib.nDigits_big hu, Nat.pow_succ] at h ⊢
      rw [Lib.decDigits, dif_neg hu, List.append_assoc]
      generalize hp : 10 ^ Lib.nDigits (u / 10) = p at *
      have e : ((p * 10 : Nat) : Int) * x + u = 10 * ((p : Int) * x + (u / 10 : Nat)) + (u % 10 : Nat) := by
        rw [Int.natCast_mul, Int.mul_assoc, Int.mul_comm (10 : Nat) x, ← Int.mul_assoc]
        omega
      rw [e] at h ⊢
      have hpx : 0 ≤ (p : Int) * x := Int.mul_nonneg (by omega) hx
      rw [ih (u / 10) (by omega) _ x hx (by rw [hp]; omega), hp]
      exact nums_digit marks r pre _ (by omega) h
theorem nums_itoa (marks : List UInt8) (pre : List Int) (n : Int) (r : List UInt8) (h0 : 0 ≤ n) (h1 : n ≤ 9999) : numsRun marks (Lib.itoa n ++ r) pre 0 = numsRun marks r pre n := by
  obtain ⟨u, rfl⟩ := Int.eq_ofNat_of_zero_le h0
  rw [Lib.itoa_nonneg, nums_digits marks pre u r 0 (by omega) (by omega)]
  simp
theorem nums_itoa1 (marks : List UInt8) (pre : List Int) (n x : Int) (r : List UInt8) (h0 : 0 ≤ n) (h1 : n < 10) (h2 : 10 * x + n ≤ 9999) : numsRun marks (Lib.itoa n ++ r) pre x = numsRun marks r pre (10 * x + n) := by
  obtain ⟨u, rfl⟩ := Int.eq_ofNat_of_zero_le h0
  rw [Lib.itoa_nonneg, Lib.decDigits_one (by omega)]
  exact nums_digit marks r pre x (by omega) h2
theorem nums_mark (marks : List UInt8) (pre : List Int) (x : Int) (ch : UInt8) (r : List UInt8) (hd : ¬ (48 ≤ ch.toNat ∧ ch.toNat ≤ 57)) (hm : marks[pre.length]? = some ch) : numsRun marks (ch :: r) pre x = numsRun marks r (pre ++ [x]) 0 := by
  rw [numsRun, if_neg hd, if_pos hm]
theorem nums_two (marks : List UInt8) (pre : List Int) (n : Int) (r : List UInt8) (h0 : 0 ≤ n) (h1 : n < 100) : numsRun marks (two n ++ r) pre 0 = numsRun marks r pre n := by
  unfold two
  rw [List.append_assoc, nums_itoa1 marks pre (n / 10) 0 _ (by omega) (by omega) (by omega), nums_itoa1 marks pre (n % 10) _ _ (by omega) (by omega) (by omega)]
  congr 1; omega
theorem nums_dash (marks : List UInt8) (pre : List Int) (x : Int) (r : List UInt8) (hm : marks[pre.length]? = some 45) : numsRun marks ([45] ++ r) pre x = numsRun marks r (pre ++ [x]) 0 :=
  nums_mark marks pre x 45 r (by decide) hm
theorem nums_end (marks : List UInt8) (pre : List Int) (x : Int) : numsRun marks [] pre x = pre ++ [x] := rfl
theorem nums_date (marks : List UInt8) (pre : List Int) {y m d : Int} (r : List UInt8) (hv : vdate y m d = true) (h1 : marks[pre.length]? = some 45) (h2 : marks[pre.length + 1]? = some 45) : numsRun marks (dateT y m d ++ r) pre 0 = numsRun marks r (pre ++ [2000 + y] ++ [m]) d := by
  obtain ⟨v1, v2, v3, v4, v5, v6⟩ := (vdate_iff y m d).1 hv
  have hdm := dom_bd y m
  unfold dateT
  simp only [List.append_assoc]
  rw [nums_itoa _ _ _ _ (by omega) (by omega), nums_dash _ _ _ _ h1, nums_two _ _ _ _ (by omega) (by omega), nums_dash _ _ _ _ (by simpa using h2), nums_two _ _ _ _ (by omega) (by omega)]
  simp

def ngM : List UInt8 := [45, 45, 47, 45, 45]
theorem nums_night {y m d y' m' d' : Int} (hv : vdate y m d = true) (hv' : vdate y' m' d' = true) :
    numsS ngM (nightT y m d y' m' d') = if y' ≠ y then [2000 + y, m, d, 2000 + y', m', d'] else if m' ≠ m then [2000 + y, m, d, m', d'] else [2000 + y, m, d, d'] := by
  obtain ⟨v1, v2, v3, v4, v5, v6⟩ := (vdate_iff y' m' d').1 hv'
  have hdm := dom_bd y' m'
  unfold numsS nightT
  rw [List.append_assoc, nums_date _ _ _ hv rfl rfl]
  rw [show ([47] : List UInt8) ++ (if y' ≠ y then dateT y' m' d' else if m' ≠ m then two m' ++ [45] ++ two d' else two d') = 47 :: (if y' ≠ y then dateT y' m' d' else if m' ≠ m then two m' ++ [45] ++ two d' else two d') from rfl]
  rw [nums_mark _ _ _ _ _ (by decide) rfl]
  by_cases h1 : y' ≠ y
  · rw [if_pos h1, if_pos h1, ← List.append_nil (dateT y' m' d'), nums_date _ _ _ hv' rfl rfl, nums_end]; rfl
  · rw [if_neg h1, if_neg h1]
    by_cases h2 : m' ≠ m
    · rw [if_pos h2, if_pos h2, List.append_assoc, nums_two _ _ _ _ (by omega) (by omega), nums_dash _ _ _ _ rfl, ← List.append_nil (two d'), nums_two _ _ _ _ (by omega) (by omega), nums_end]; rfl
    · rw [if_neg h2, if_neg h2, ← List.append_nil (two d'), nums_two _ _ _ _ (by omega) (by omega), nums_end]; rfl

/-- both dates of a text -/
def readD : List Int → (Int × Int × Int) × (Int × Int × Int)
  | [a, b, c, d] => ((a - 2000, b, c), (a - 2000, b, d))
  | [a, b, c, d, e] => ((a - 2000, b, c), (a - 2000, d, e))
  | a :: b :: c :: d :: e :: f :: _ => ((a - 2000, b, c), (d - 2000, e, f))
  | _ => ((0, 0, 0), (0, 0, 0))
theorem read_night {y m d y' m' d' : Int} (hv : vdate y m d = true) (hv' : vdate y' m' d' = true) : readD (numsS ngM (nightT y m d y' m' d')) = ((y, m, d), (y', m', d')) := by
  rw [nums_night hv hv']
  by_cases h1 : y' ≠ y
  · rw [if_pos h1]; simp [readD]; omega
  · rw [if_neg h1]
    have h1 : y' = y := by omega
    by_cases h2 : m' ≠ m
    · rw [if_pos h2]; simp [readD]; omega
    · rw [if_neg h2]; simp [readD]; omega

/-- a square is read from its own text -/
theorem side_1024 (l : Int) (h0 : 0 ≤ l) : (2 ^ (10 - l).toNat : Nat) ≤ 1024 := by
  have : (10 - l).toNat ≤ 10 := by omega
  exact Nat.le_trans (Nat.pow_le_pow_right (by decide) this) (by decide)
theorem parse_own {s : Sq} (h : s.okB = true) : parseS (sqT s) = (s, 0) := by
  have h' := h
  obtain ⟨v1, v2, v3, v4, v5, v6⟩ := (Sq.okB_iff s).1 h
  have hsd := side_le s.l v1
  have e : numsS sqM (sqT s) = [s.l, s.x, s.y] := by
    unfold numsS sqT
    simp only [List.append_assoc]
    rw [nums_itoa _ _ _ _ (by omega) (by omega)]
    rw [show ([58] : List UInt8) ++ (Lib.itoa s.x ++ ([44] ++ Lib.itoa s.y)) = 58 :: (Lib.itoa s.x ++ ([44] ++ Lib.itoa s.y)) from rfl, nums_mark _ _ _ _ _ (by decide) rfl]
    rw [nums_itoa _ _ _ _ (by omega) (by omega)]
    rw [show ([44] : List UInt8) ++ Lib.itoa s.y = 44 :: Lib.itoa s.y from rfl, nums_mark _ _ _ _ _ (by decide) rfl]
    rw [← List.append_nil (Lib.itoa s.y), nums_itoa _ _ _ _ (by omega) (by omega), nums_end]
    rfl
  unfold parseS
  rw [e]
  simp [h']
theorem parse_text {cs : List UInt8} (h : (parseS cs).2 = 0) : (parseS cs).1.okB = true ∧ sqT (parseS cs).1 = cs := by
  by_cases h3 : (numsS sqM cs).length = 3
  · obtain ⟨a, b, c, e⟩ : ∃ a b c, numsS sqM cs = [a, b, c] := by
      match h : numsS sqM cs, h3 with
      | [a, b, c], _ => exact ⟨a, b, c, rfl⟩
    have hp : parseS cs = if (Sq.mk a b c).okB && decide (sqT ⟨a, b, c⟩ = cs) then (⟨a, b, c⟩, 0) else (⟨0, 0, 0⟩, 13) := by unfold parseS; rw [e]
    rw [hp] at h ⊢
    by_cases hc : ((Sq.mk a b c).okB && decide (sqT ⟨a, b, c⟩ = cs)) = true
    · rw [if_pos hc]
      simpa using hc
    · rw [if_neg hc] at h; cases h
  · rw [parse_bad h3] at h; cases h
end Go.Proofs.YtabolonlkocopaaGreatDoor


/- readNight, ParseNight, PrintSquare. -/
namespace Go.Proofs.YtabolonlkocopaaGreatDoor
open Go.RowKit Go.Plc

theorem nums_rng (marks : List UInt8) : ∀ (cs : List UInt8) (pre : List Int) (x : Int), pre.length ≤ marks.length → (∀ y ∈ pre, 0 ≤ y ∧ y ≤ 99999) → 0 ≤ x ∧ x ≤ 9999 →
    (numsRun marks cs pre x).length ≤ marks.length + 1 ∧ ∀ y ∈ numsRun marks cs pre x, 0 ≤ y ∧ y ≤ 99999
  | [], pre, x, hp, hy, hx => by
    unfold numsRun
    refine ⟨by simp; omega, fun y h => ?_⟩
    rcases List.mem_append.1 h with h | h
    · exact hy y h
    · simp at h; omega
  | ch :: r, pre, x, hp, hy, hx => by
    unfold numsRun
    have hend : ∀ z : Int, 0 ≤ z ∧ z ≤ 99999 → (pre ++ [z]).length ≤ marks.length + 1 ∧ ∀ y ∈ pre ++ [z], 0 ≤ y ∧ y ≤ 99999 := fun z hz => by
      refine ⟨by simp; omega, fun y h => ?_⟩
      rcases List.mem_append.1 h with h | h
      · exact hy y h
      · simp at h; omega
    by_cases hd : 48 ≤ ch.toNat ∧ ch.toNat ≤ 57
    · rw [if_pos hd]
      by_cases hb : 9999 < 10 * x + ((ch.toNat : Int) - 48)
      · rw [if_pos hb]; exact hend _ (by omega)
      · rw [if_neg hb]; exact nums_rng marks r pre _ hp hy (by omega)
    · rw [if_neg hd]
      by_cases hm : marks[pre.length]? = some ch
      · rw [if_pos hm]
        have hl : pre.length < marks.length := (List.getElem?_eq_some_iff.1 hm).1
        exact nums_rng marks r (pre ++ [x]) 0 (by simp; omega) (hend x (by omega)).2 (by omega)
      · rw [if_neg hm]; exact hend x (by omega)
theorem own_cells {w : World} {base : Nat} {v : Value} {L : List Int} (h : w.ownsRow base 3 1 v L.length (intsV L)) (h0 : 0 < L.length) :
    ∃ g cap, v = .slice (some ⟨g, 0, none⟩) L.length cap ∧ base ≤ g ∧ g < w.heap.size ∧ ∀ i x, L[i]? = some x → w.cell? ⟨g, i, none⟩ = some (.int .i64 x) := by
  have h' := h
  obtain ⟨hl, ⟨_, h0'⟩ | ⟨g, cap, cur, rfl, hb, hg, _⟩⟩ := h
  · omega
  · refine ⟨g, cap, rfl, hb, (Array.getElem?_eq_some_iff.1 hg).1, fun i x hx => ?_⟩
    obtain ⟨hi, e⟩ := List.getElem?_eq_some_iff.1 hx
    rw [h'.cellAt i (by simpa using hi)]
    simp [intsV, hi, e]

def dav (p : Int × Int × Int) : Value := .agg #[.int .i64 p.1, .int .i64 p.2.1, .int .i64 p.2.2]
/-- the boxes of both dates that are read -/
structure RN (w : World) (p q : Int × Int × Int) (X : World) : Prop where
  bel : Below w.heap.size w X
  a : X.heap[w.heap.size]? = some (.cells #[.int .i64 p.1, .int .i64 p.2.1, .int .i64 p.2.2] 48)
  b : X.heap[w.heap.size + 1]? = some (.cells #[.int .i64 q.1, .int .i64 q.2.1, .int .i64 q.2.2] 48)

theorem RN.seta {w X : World} {p q : Int × Int × Int} (h : RN w p q X) (x y z : Int) : RN w (x, y, z) q (((X.setCell ⟨w.heap.size, 0, none⟩ (.int .i64 x)).setCell ⟨w.heap.size, 1, none⟩ (.int .i64 y)).setCell ⟨w.heap.size, 2, none⟩ (.int .i64 z)) :=
  ⟨Below.setCell (p := ⟨w.heap.size, 2, none⟩) (Below.setCell (p := ⟨w.heap.size, 1, none⟩) (Below.setCell (p := ⟨w.heap.size, 0, none⟩) h.bel (Nat.le_refl _) _) (Nat.le_refl _) _) (Nat.le_refl _) _,
    set_at (set_at (set_at h.a)), set_other (set_other (set_other h.b (by omega)) (by omega)) (by omega)⟩
theorem RN.setb {w X : World} {p q : Int × Int × Int} (h : RN w p q X) (x y z : Int) : RN w p (x, y, z) (((X.setCell ⟨w.heap.size + 1, 0, none⟩ (.int .i64 x)).setCell ⟨w.heap.size + 1, 1, none⟩ (.int .i64 y)).setCell ⟨w.heap.size + 1, 2, none⟩ (.int .i64 z)) :=
  ⟨Below.setCell (p := ⟨w.heap.size + 1, 2, none⟩) (Below.setCell (p := ⟨w.heap.size + 1, 1, none⟩) (Below.setCell (p := ⟨w.heap.size + 1, 0, none⟩) h.bel (Nat.le_succ _) _) (Nat.le_succ _) _) (Nat.le_succ _) _,
    set_other (set_other (set_other h.a (by omega)) (by omega)) (by omega), set_at (set_at (set_at h.b))⟩
theorem RN.drew {w X : World} {p q : Int × Int × Int} (h : RN w p q X) : RN w p q X.drew := ⟨h.bel.drew, h.a, h.b⟩
theorem RN.below {w X Y : World} {p q : Int × Int × Int} (h : RN w p q X) (hb : Below X.heap.size X Y) : RN w p q Y :=
  ⟨h.bel.trans (hb.mono h.bel.size), (hb.block _ (Array.getElem?_eq_some_iff.1 h.a).1).trans h.a, (hb.block _ (Array.getElem?_eq_some_iff.1 h.b).1).trans h.b⟩
/-- the numbers that were read, beside the boxes -/
def InL (g : Nat) (L : List Int) (X : World) : Prop := ∀ i x, L[i]? = some x → X.cell? ⟨g, i, none⟩ = some (.int .i64 x)
theorem InL.set {g k i : Nat} {L : List Int} {X : World} {v : Value} (h : InL g L X) (hne : g ≠ k) : InL g L (X.setCell ⟨k, i, none⟩ v) := fun j x hx => by
  have e : (⟨k, i, none⟩ : Addr) ≠ ⟨g, j, none⟩ := fun e => hne (congrArg Addr.block e).symm
  (first | rw [World.cell?_setCell_other _ e] | rw [World.cell?_setCell_other _ _ e] | rw [World.cell?_setCell_other _ _ _ e] | rw [World.cell?_setCell_other _ _ _ _ e]); exact h j x hx
theorem InL.drew {g : Nat} {L : List Int} {X : World} (h : InL g L X) : InL g L X.drew := h
/-- any world of a kind -/
theorem wp_world {C : Code} {P : Program} {Q : Exit → Act → World → Prop} {a : Act} {W : World} (R : World → Prop) (h : R W) (k : ∀ X, R X → C.wp P Q a X) : C.wp P Q a W := k W h
theorem post_world {P : Program} {f : Func} {S : Ending → World → Prop} {e : Exit} {a : Act} {W : World} (R : World → Prop) (h : R W) (k : ∀ X, R X → bodyPost P f S e a X) : bodyPost P f S e a W := k W h

set_option maxRecDepth 100000 in
set_option maxHeartbeats 4000000 in
theorem readNight_any (cs : List UInt8) (w : World) (hc : cs.length ≤ 1000000) :
    Calls Tryz.prog 80 #[.string ⟨cs.toArray⟩] w fun e w' => e = .returned (.tuple #[dav (readD (numsS ngM cs)).1, dav (readD (numsS ngM cs)).2]) ∧ Below w.heap.size w w' := by
  obtain ⟨hlen, hrng⟩ := nums_rng ngM cs [] 0 (by simp) (fun y hy => by cases hy) (by omega)
  rw [show numsRun ngM cs [] 0 = numsS ngM cs from rfl] at hlen hrng
  have HNu := Lib.hid (numbers_any cs ngM ((w.alloc (.cells #[.int .i64 0, .int .i64 0, .int .i64 0] 48)).alloc (.cells #[.int .i64 0, .int .i64 0, .int .i64 0] 48)) hc (by decide))
  have H0 := Lib.hid (show RN w (0, 0, 0) (0, 0, 0) ((w.alloc (.cells #[.int .i64 0, .int .i64 0, .int .i64 0] 48)).alloc (.cells #[.int .i64 0, .int .i64 0, .int .i64 0] 48)) from
    ⟨(below_new _).trans ((below_new _).mono (by simp)), (Below.heap_alloc _ _ _ (by simp)).trans (World.alloc_heap_new w _), by have := World.alloc_heap_new (w.alloc (.cells #[.int .i64 0, .int .i64 0, .int .i64 0] 48)) (.cells #[.int .i64 0, .int .i64 0, .int .i64 0] 48); rwa [World.size_alloc] at this⟩)
  unfold ngM at HNu
  rw [show [45, 45, 47, 45, 45] = ngM from rfl] at HNu
  generalize hL : numsS ngM cs = L at *
  unfold ngM at HNu
  clear hL
  match L, hlen, hrng, HNu with
  | [], _, _, HNu =>
    go_enter Tryz.func80, Tryz.ntmps80
    go_wp2_with fail
    refine HNu.out.mono ?_
    rintro e w1 ⟨v, rfl, hown, hb1⟩
    have HR := Lib.hid (H0.out.below hb1)
    obtain ⟨A, cp, rfl⟩ := own_form hown
    have hfa := frozen_row HR.out.a
    have hfb := frozen_row HR.out.b
    obtain ⟨a0, a1, a2⟩ := date_cells HR.out.a
    obtain ⟨b0, b1, b2⟩ := date_cells HR.out.b
    have hz0 : w.heap.size + 1 < w1.heap.size := (Array.getElem?_eq_some_iff.1 HR.out.b).1
    clear hown hb1
    go_wp2_with fail
    refine post_world (RN w (0, 0, 0) (0, 0, 0)) ((HR.out.seta 0 0 0).setb 0 0 0) (fun X hX => ?_)
    obtain ⟨a0, a1, a2⟩ := date_cells hX.a
    obtain ⟨b0, b1, b2⟩ := date_cells hX.b
    exact bodyPost_ret (v := .tuple #[.agg #[.int .i64 0, .int .i64 0, .int .i64 0], .agg #[.int .i64 0, .int .i64 0, .int .i64 0]]) (by simp [results, Tryz.results80, go_sem, a0, a1, a2, b0, b1, b2]) rfl ⟨rfl, hX.bel⟩
  | [a], _, _, HNu =>
    go_enter Tryz.func80, Tryz.ntmps80
    go_wp2_with fail
    refine HNu.out.mono ?_
    rintro e w1 ⟨v, rfl, hown, hb1⟩
    have HR := Lib.hid (H0.out.below hb1)
    obtain ⟨A, cp, rfl⟩ := own_form hown
    simp only [List.length_cons, List.length_nil]
    have hfa := frozen_row HR.out.a
    have hfb := frozen_row HR.out.b
    obtain ⟨a0, a1, a2⟩ := date_cells HR.out.a
    obtain ⟨b0, b1, b2⟩ := date_cells HR.out.b
    have hz0 : w.heap.size + 1 < w1.heap.size := (Array.getElem?_eq_some_iff.1 HR.out.b).1
    clear hown hb1
    go_wp2_with fail
    refine post_world (RN w (0, 0, 0) (0, 0, 0)) ((HR.out.seta 0 0 0).setb 0 0 0) (fun X hX => ?_)
    obtain ⟨a0, a1, a2⟩ := date_cells hX.a
    obtain ⟨b0, b1, b2⟩ := date_cells hX.b
    exact bodyPost_ret (v := .tuple #[.agg #[.int .i64 0, .int .i64 0, .int .i64 0], .agg #[.int .i64 0, .int .i64 0, .int .i64 0]]) (by simp [results, Tryz.results80, go_sem, a0, a1, a2, b0, b1, b2]) rfl ⟨rfl, hX.bel⟩
  | [a, b], _, _, HNu =>
    go_enter Tryz.func80, Tryz.ntmps80
    go_wp2_with fail
    refine HNu.out.mono ?_
    rintro e w1 ⟨v, rfl, hown, hb1⟩
    have HR := Lib.hid (H0.out.below hb1)
    obtain ⟨A, cp, rfl⟩ := own_form hown
    simp only [List.length_cons, List.length_nil]
    have hfa := frozen_row HR.out.a
    have hfb := frozen_row HR.out.b
    obtain ⟨a0, a1, a2⟩ := date_cells HR.out.a
    obtain ⟨b0, b1, b2⟩ := date_cells HR.out.b
    have hz0 : w.heap.size + 1 < w1.heap.size := (Array.getElem?_eq_some_iff.1 HR.out.b).1
    clear hown hb1
    go_wp2_with fail
    refine post_world (RN w (0, 0, 0) (0, 0, 0)) ((HR.out.seta 0 0 0).setb 0 0 0) (fun X hX => ?_)
    obtain ⟨a0, a1, a2⟩ := date_cells hX.a
    obtain ⟨b0, b1, b2⟩ := date_cells hX.b
    exact bodyPost_ret (v := .tuple #[.agg #[.int .i64 0, .int .i64 0, .int .i64 0], .agg #[.int .i64 0, .int .i64 0, .int .i64 0]]) (by simp [results, Tryz.results80, go_sem, a0, a1, a2, b0, b1, b2]) rfl ⟨rfl, hX.bel⟩
  | [a, b, c], _, _, HNu =>
    go_enter Tryz.func80, Tryz.ntmps80
    go_wp2_with fail
    refine HNu.out.mono ?_
    rintro e w1 ⟨v, rfl, hown, hb1⟩
    have HR := Lib.hid (H0.out.below hb1)
    obtain ⟨A, cp, rfl⟩ := own_form hown
    simp only [List.length_cons, List.length_nil]
    have hfa := frozen_row HR.out.a
    have hfb := frozen_row HR.out.b
    obtain ⟨a0, a1, a2⟩ := date_cells HR.out.a
    obtain ⟨b0, b1, b2⟩ := date_cells HR.out.b
    have hz0 : w.heap.size + 1 < w1.heap.size := (Array.getElem?_eq_some_iff.1 HR.out.b).1
    clear hown hb1
    go_wp2_with fail
    refine post_world (RN w (0, 0, 0) (0, 0, 0)) ((HR.out.seta 0 0 0).setb 0 0 0) (fun X hX => ?_)
    obtain ⟨a0, a1, a2⟩ := date_cells hX.a
    obtain ⟨b0, b1, b2⟩ := date_cells hX.b
    exact bodyPost_ret (v := .tuple #[.agg #[.int .i64 0, .int .i64 0, .int .i64 0], .agg #[.int .i64 0, .int .i64 0, .int .i64 0]]) (by simp [results, Tryz.results80, go_sem, a0, a1, a2, b0, b1, b2]) rfl ⟨rfl, hX.bel⟩
  | [a, b, c, d], _, hrng, HNu =>
    have ra := hrng a (by simp)
    have hwa : IntKind.i64.wrap (a - 2000) = a - 2000 := by rw [IntKind.wrap_i64]; omega
    clear hrng
    go_enter Tryz.func80, Tryz.ntmps80
    go_wp2_with fail
    refine HNu.out.mono ?_
    rintro e w1 ⟨v, rfl, hown, hb1⟩
    have HR := Lib.hid (H0.out.below hb1)
    obtain ⟨g, cap, rfl, hg0, hg1, hcl⟩ := own_cells hown (by simp)
    have HI : InL g _ w1 := hcl
    have HI := Lib.hid HI
    have c0 := hcl 0 a rfl
    have c1 := hcl 1 b rfl
    have c2 := hcl 2 c rfl
    have c3 := hcl 3 d rfl
    have hfa := frozen_row HR.out.a
    have hfb := frozen_row HR.out.b
    obtain ⟨a0, a1, a2⟩ := date_cells HR.out.a
    obtain ⟨b0, b1, b2⟩ := date_cells HR.out.b
    have hz0 : w.heap.size + 1 < w1.heap.size := (Array.getElem?_eq_some_iff.1 HR.out.b).1
    clear hcl hown hb1
    simp only [List.length_cons, List.length_nil]
    have hz : w.heap.size + 2 ≤ g := by simpa using hg0
    have hn0 : g ≠ w.heap.size := by omega
    have hn1 : g ≠ w.heap.size + 1 := by omega
    clear hg0
    have HNe := Lib.hid (And.intro hn0 hn1)
    clear hn0 hn1
    go_wp2_with fail
    go_region
    go_wp2_with fail
    refine wp_world (fun X => RN w ((a - 2000), b, c) (0, 0, 0) X ∧ InL g [a, b, c, d] X) ⟨(HR.out.seta _ _ _).drew, (((HI.out.set HNe.out.1).set HNe.out.1).set HNe.out.1).drew⟩ (fun X hX => ?_)
    obtain ⟨hR, hI⟩ := hX
    have c0 := hI 0 a rfl
    have c1 := hI 1 b rfl
    have c2 := hI 2 c rfl
    have c3 := hI 3 d rfl
    have hfa := frozen_row hR.a
    have hfb := frozen_row hR.b
    obtain ⟨a0, a1, a2⟩ := date_cells hR.a
    obtain ⟨b0, b1, b2⟩ := date_cells hR.b
    have hz0 : w.heap.size + 1 < X.heap.size := (Array.getElem?_eq_some_iff.1 hR.b).1
    have HR := Lib.hid hR
    have HI := Lib.hid hI
    clear hR hI
    clear hg1
    go_region
    go_wp2_with fail
    refine wp_world (fun X => RN w ((a - 2000), b, c) ((a - 2000), b, d) X ∧ InL g [a, b, c, d] X) ⟨(HR.out.setb _ _ _).drew, (((HI.out.set HNe.out.2).set HNe.out.2).set HNe.out.2).drew⟩ (fun X hX => ?_)
    obtain ⟨hR, hI⟩ := hX
    have c0 := hI 0 a rfl
    have c1 := hI 1 b rfl
    have c2 := hI 2 c rfl
    have c3 := hI 3 d rfl
    have hfa := frozen_row hR.a
    have hfb := frozen_row hR.b
    obtain ⟨a0, a1, a2⟩ := date_cells hR.a
    obtain ⟨b0, b1, b2⟩ := date_cells hR.b
    have hz0 : w.heap.size + 1 < X.heap.size := (Array.getElem?_eq_some_iff.1 hR.b).1
    have HR := Lib.hid hR
    have HI := Lib.hid hI
    clear hR hI
    go_region
    go_wp2_with fail
    refine post_world (RN w ((a - 2000), b, c) ((a - 2000), b, d)) ((HR.out.seta _ _ _).setb _ _ _).drew (fun X hX => ?_)
    obtain ⟨a0, a1, a2⟩ := date_cells hX.a
    obtain ⟨b0, b1, b2⟩ := date_cells hX.b
    exact bodyPost_ret (v := .tuple #[.agg #[.int .i64 (a - 2000), .int .i64 b, .int .i64 c], .agg #[.int .i64 (a - 2000), .int .i64 b, .int .i64 d]]) (by simp [results, Tryz.results80, go_sem, a0, a1, a2, b0, b1, b2]) rfl ⟨rfl, hX.bel⟩
  | [a, b, c, d, f], _, hrng, HNu =>
    have ra := hrng a (by simp)
    have hwa : IntKind.i64.wrap (a - 2000) = a - 2000 := by rw [IntKind.wrap_i64]; omega
    clear hrng
    go_enter Tryz.func80, Tryz.ntmps80
    go_wp2_with fail
    refine HNu.out.mono ?_
    rintro e w1 ⟨v, rfl, hown, hb1⟩
    have HR := Lib.hid (H0.out.below hb1)
    obtain ⟨g, cap, rfl, hg0, hg1, hcl⟩ := own_cells hown (by simp)
    have HI : InL g _ w1 := hcl
    have HI := Lib.hid HI
    have c0 := hcl 0 a rfl
    have c1 := hcl 1 b rfl
    have c2 := hcl 2 c rfl
    have c3 := hcl 3 d rfl
    have c4 := hcl 4 f rfl
    have hfa := frozen_row HR.out.a
    have hfb := frozen_row HR.out.b
    obtain ⟨a0, a1, a2⟩ := date_cells HR.out.a
    obtain ⟨b0, b1, b2⟩ := date_cells HR.out.b
    have hz0 : w.heap.size + 1 < w1.heap.size := (Array.getElem?_eq_some_iff.1 HR.out.b).1
    clear hcl hown hb1
    simp only [List.length_cons, List.length_nil]
    have hz : w.heap.size + 2 ≤ g := by simpa using hg0
    have hn0 : g ≠ w.heap.size := by omega
    have hn1 : g ≠ w.heap.size + 1 := by omega
    clear hg0
    have HNe := Lib.hid (And.intro hn0 hn1)
    clear hn0 hn1
    go_wp2_with fail
    go_region
    go_wp2_with fail
    refine wp_world (fun X => RN w ((a - 2000), b, c) (0, 0, 0) X ∧ InL g [a, b, c, d, f] X) ⟨(HR.out.seta _ _ _).drew, (((HI.out.set HNe.out.1).set HNe.out.1).set HNe.out.1).drew⟩ (fun X hX => ?_)
    obtain ⟨hR, hI⟩ := hX
    have c0 := hI 0 a rfl
    have c1 := hI 1 b rfl
    have c2 := hI 2 c rfl
    have c3 := hI 3 d rfl
    have c4 := hI 4 f rfl
    have hfa := frozen_row hR.a
    have hfb := frozen_row hR.b
    obtain ⟨a0, a1, a2⟩ := date_cells hR.a
    obtain ⟨b0, b1, b2⟩ := date_cells hR.b
    have hz0 : w.heap.size + 1 < X.heap.size := (Array.getElem?_eq_some_iff.1 hR.b).1
    have HR := Lib.hid hR
    have HI := Lib.hid hI
    clear hR hI
    clear hg1
    go_region
    go_wp2_with fail
    refine wp_world (fun X => RN w ((a - 2000), b, c) ((a - 2000), d, f) X ∧ InL g [a, b, c, d, f] X) ⟨(HR.out.setb _ _ _).drew, (((HI.out.set HNe.out.2).set HNe.out.2).set HNe.out.2).drew⟩ (fun X hX => ?_)
    obtain ⟨hR, hI⟩ := hX
    have c0 := hI 0 a rfl
    have c1 := hI 1 b rfl
    have c2 := hI 2 c rfl
    have c3 := hI 3 d rfl
    have c4 := hI 4 f rfl
    have hfa := frozen_row hR.a
    have hfb := frozen_row hR.b
    obtain ⟨a0, a1, a2⟩ := date_cells hR.a
    obtain ⟨b0, b1, b2⟩ := date_cells hR.b
    have hz0 : w.heap.size + 1 < X.heap.size := (Array.getElem?_eq_some_iff.1 hR.b).1
    have HR := Lib.hid hR
    have HI := Lib.hid hI
    clear hR hI
    go_region
    go_wp2_with fail
    refine post_world (RN w ((a - 2000), b, c) ((a - 2000), d, f)) ((HR.out.seta _ _ _).setb _ _ _).drew (fun X hX => ?_)
    obtain ⟨a0, a1, a2⟩ := date_cells hX.a
    obtain ⟨b0, b1, b2⟩ := date_cells hX.b
    exact bodyPost_ret (v := .tuple #[.agg #[.int .i64 (a - 2000), .int .i64 b, .int .i64 c], .agg #[.int .i64 (a - 2000), .int .i64 d, .int .i64 f]]) (by simp [results, Tryz.results80, go_sem, a0, a1, a2, b0, b1, b2]) rfl ⟨rfl, hX.bel⟩
  | a :: b :: c :: d :: f :: k :: L', hlen, hrng, HNu =>
    have ra := hrng a (by simp)
    have hwa : IntKind.i64.wrap (a - 2000) = a - 2000 := by rw [IntKind.wrap_i64]; omega
    have rd := hrng d (by simp)
    have hwd : IntKind.i64.wrap (d - 2000) = d - 2000 := by rw [IntKind.wrap_i64]; omega
    clear hrng
    obtain rfl : L' = [] := List.eq_nil_of_length_eq_zero (by simpa [ngM] using hlen)
    clear hlen
    go_enter Tryz.func80, Tryz.ntmps80
    go_wp2_with fail
    refine HNu.out.mono ?_
    rintro e w1 ⟨v, rfl, hown, hb1⟩
    have HR := Lib.hid (H0.out.below hb1)
    obtain ⟨g, cap, rfl, hg0, hg1, hcl⟩ := own_cells hown (by simp)
    have HI : InL g _ w1 := hcl
    have HI := Lib.hid HI
    have c0 := hcl 0 a rfl
    have c1 := hcl 1 b rfl
    have c2 := hcl 2 c rfl
    have c3 := hcl 3 d rfl
    have c4 := hcl 4 f rfl
    have c5 := hcl 5 k rfl
    have hfa := frozen_row HR.out.a
    have hfb := frozen_row HR.out.b
    obtain ⟨a0, a1, a2⟩ := date_cells HR.out.a
    obtain ⟨b0, b1, b2⟩ := date_cells HR.out.b
    have hz0 : w.heap.size + 1 < w1.heap.size := (Array.getElem?_eq_some_iff.1 HR.out.b).1
    clear hcl hown hb1
    simp only [List.length_cons, List.length_nil]
    have hz : w.heap.size + 2 ≤ g := by simpa using hg0
    have hn0 : g ≠ w.heap.size := by omega
    have hn1 : g ≠ w.heap.size + 1 := by omega
    clear hg0
    have HNe := Lib.hid (And.intro hn0 hn1)
    clear hn0 hn1
    go_wp2_with fail
    go_region
    go_wp2_with fail
    refine wp_world (fun X => RN w ((a - 2000), b, c) (0, 0, 0) X ∧ InL g [a, b, c, d, f, k] X) ⟨(HR.out.seta _ _ _).drew, (((HI.out.set HNe.out.1).set HNe.out.1).set HNe.out.1).drew⟩ (fun X hX => ?_)
    obtain ⟨hR, hI⟩ := hX
    have c0 := hI 0 a rfl
    have c1 := hI 1 b rfl
    have c2 := hI 2 c rfl
    have c3 := hI 3 d rfl
    have c4 := hI 4 f rfl
    have c5 := hI 5 k rfl
    have hfa := frozen_row hR.a
    have hfb := frozen_row hR.b
    obtain ⟨a0, a1, a2⟩ := date_cells hR.a
    obtain ⟨b0, b1, b2⟩ := date_cells hR.b
    have hz0 : w.heap.size + 1 < X.heap.size := (Array.getElem?_eq_some_iff.1 hR.b).1
    have HR := Lib.hid hR
    have HI := Lib.hid hI
    clear hR hI
    clear hg1
    go_region
    go_wp2_with fail
    refine wp_world (fun X => RN w ((a - 2000), b, c) ((d - 2000), f, k) X ∧ InL g [a, b, c, d, f, k] X) ⟨(HR.out.setb _ _ _).drew, (((HI.out.set HNe.out.2).set HNe.out.2).set HNe.out.2).drew⟩ (fun X hX => ?_)
    obtain ⟨hR, hI⟩ := hX
    have c0 := hI 0 a rfl
    have c1 := hI 1 b rfl
    have c2 := hI 2 c rfl
    have c3 := hI 3 d rfl
    have c4 := hI 4 f rfl
    have c5 := hI 5 k rfl
    have hfa := frozen_row hR.a
    have hfb := frozen_row hR.b
    obtain ⟨a0, a1, a2⟩ := date_cells hR.a
    obtain ⟨b0, b1, b2⟩ := date_cells hR.b
    have hz0 : w.heap.size + 1 < X.heap.size := (Array.getElem?_eq_some_iff.1 hR.b).1
    have HR := Lib.hid hR
    have HI := Lib.hid hI
    clear hR hI
    go_region
    go_wp2_with fail
    refine post_world (RN w ((a - 2000), b, c) ((d - 2000), f, k)) ((HR.out.seta _ _ _).setb _ _ _).drew (fun X hX => ?_)
    obtain ⟨a0, a1, a2⟩ := date_cells hX.a
    obtain ⟨b0, b1, b2⟩ := date_cells hX.b
    exact bodyPost_ret (v := .tuple #[.agg #[.int .i64 (a - 2000), .int .i64 b, .int .i64 c], .agg #[.int .i64 (d - 2000), .int .i64 f, .int .i64 k]]) (by simp [results, Tryz.results80, go_sem, a0, a1, a2, b0, b1, b2]) rfl ⟨rfl, hX.bel⟩

/-- the text of a square -/
def printOut (s : Sq) : List UInt8 × Int := if s.okB then (sqT s, 0) else ([], 10)
set_option maxHeartbeats 1000000 in
theorem PrintSquare_any (s : Sq) (w : World) (hT : TabW w) :
    Calls Tryz.prog 27 #[sqv s] w fun e w' => e = .returned (.tuple #[.string ⟨(printOut s).1.toArray⟩, .int .i64 (printOut s).2]) ∧ Below w.heap.size w w' := by
  have HT := Lib.hid hT
  have HV := Lib.hid (ValidSquare_any s.l s.x s.y (w.alloc (.cells #[.int .i64 s.l, .int .i64 s.x, .int .i64 s.y] 31)))
  rw [show (Sq.mk s.l s.x s.y) = s from rfl] at HV
  clear hT
  cases hs : s.okB
  · have HO := Lib.hid (show printOut s = ([], 10) by unfold printOut; rw [hs]; rfl)
    rw [hs] at HV
    clear hs
    rw [HO.out]
    unfold sqv
    go_enter Tryz.func27, Tryz.ntmps27
    go_wp2_with fail
    refine HV.out.mono ?_
    rintro e w1 ⟨rfl, hb1⟩
    have HB := Lib.hid (show Below w.heap.size w w1 from (below_new _).trans (hb1.mono (by simp)))
    clear hb1
    go_wp2_with fail
    go_ret2
    exact ⟨rfl, HB.out⟩
  · have HO := Lib.hid (show printOut s = (sqT s, 0) by unfold printOut; rw [hs]; rfl)
    have HS := Lib.hid (fun w h => squareText_any s w h hs)
    rw [hs] at HV
    clear hs
    rw [HO.out]
    generalize sqT s = tx at *
    unfold sqv at *
    go_enter Tryz.func27, Tryz.ntmps27
    go_wp2_with fail
    refine HV.out.mono ?_
    rintro e w1 ⟨rfl, hb1⟩
    have HB := Lib.hid (show Below w.heap.size w w1 from (below_new _).trans (hb1.mono (by simp)))
    obtain ⟨q0, q1, q2⟩ := sq_cells ((hb1.block w.heap.size (by simp)).trans (World.alloc_heap_new w _))
    clear hb1
    go_wp2_with fail
    refine (HS.out _ (HT.out.below HB.out)).mono ?_
    rintro e w2 ⟨rfl, hb2⟩
    have HB2 := Lib.hid (HB.out.trans (hb2.mono HB.out.size))
    clear hb2 q0 q1 q2
    go_wp2_with fail
    go_ret2
    exact ⟨rfl, HB2.out⟩

/-- a text is that of a night -/
def NightOfText (cs : List UInt8) (n : Int) : Prop := ∃ y m d y' m' d', vdate y m d = true ∧ num y m d = n ∧ n ≤ 99999 ∧ vdate y' m' d' = true ∧ num y' m' d' = n + 1 ∧ nightT y m d y' m' d' = cs
def ParseRes (cs : List UInt8) (w : World) (e : Ending) (w' : World) : Prop :=
  ((∃ n, e = .returned (.tuple #[.int .i64 n, .int .i64 0]) ∧ NightOfText cs n) ∨ (e = .returned (.tuple #[.int .i64 0, .int .i64 13]) ∧ ∀ n, ¬ NightOfText cs n)) ∧ Below w.heap.size w w'
end Go.Proofs.YtabolonlkocopaaGreatDoor
