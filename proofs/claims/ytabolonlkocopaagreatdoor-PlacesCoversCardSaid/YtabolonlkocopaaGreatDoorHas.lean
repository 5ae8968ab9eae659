
/- Has, Meets, Area. -/
import Derived.Test.YtabolonlkocopaaGreatDoorReg3
namespace Go.Proofs.YtabolonlkocopaaGreatDoor
open Go.RowKit Go.Plc

set_option maxHeartbeats 1000000 in
theorem has1_any (q s : Sq) (g : Nat) (w : World) (hb : w.heap[g]? = some (sqO s)) (hq : q.okB = true) (hs : s.okB = true) :
    Calls Tryz.prog 60 #[sqv q, .pointer (some ⟨g, 0, none⟩)] w fun e w' => e = .returned (.bool (withinS s q)) ∧ Below w.heap.size w w' := by
  have HW := Lib.hid (fun w => within_any s q w hs hq)
  obtain ⟨c0, c1, c2⟩ := sq_cells (s := s) ((Below.heap_alloc w (.cells #[.int .i64 q.l, .int .i64 q.x, .int .i64 q.y] 31) g (Array.getElem?_eq_some_iff.1 hb).1).trans hb)
  have hz : g < w.heap.size := (Array.getElem?_eq_some_iff.1 hb).1
  clear hb hq hs
  unfold sqv at *
  go_enter Tryz.func60, Tryz.ntmps60
  go_wp2_with fail
  refine (HW.out _).mono ?_
  rintro e w1 ⟨rfl, hb1⟩
  have HB := Lib.hid (show Below w.heap.size w w1 from (below_new _).trans (hb1.mono (by simp)))
  clear hb1
  go_wp2_with fail
  go_ret
  exact ⟨rfl, HB.out⟩

/-- the first that answers true -/
def idxS (P : Sq → Bool) : List Sq → Int
  | [] => -1
  | s :: L => if P s then 0 else if 0 ≤ idxS P L then idxS P L + 1 else -1
theorem idx_any (P : Sq → Bool) : ∀ L : List Sq, (decide (0 ≤ idxS P L)) = L.any P
  | [] => rfl
  | s :: L => by
    have ih := idx_any P L
    unfold idxS
    rw [List.any_cons, ← ih]
    cases P s
    · by_cases h : 0 ≤ idxS P L
      · simp [h]; omega
      · simp [h]
    · simp
set_option maxRecDepth 100000 in
set_option maxHeartbeats 2000000 in
theorem IndexHas_any (g : Nat) (P : Sq → Bool) (v : Value) (L : List Sq) (w : World) (hv : SqSl w w.heap.size v L) (hn : L.length ≤ 1000000)
    (hF : ∀ X, Below w.heap.size w X → ∀ q ∈ L, Calls Tryz.prog 60 #[sqv q, .pointer (some ⟨g, 0, none⟩)] X fun e w' => e = .returned (.bool (P q)) ∧ Below X.heap.size X w') :
    Calls Tryz.prog 95 #[v, .func (.func 60) #[] #[.pointer (some ⟨g, 0, none⟩)]] w fun e w' => (∃ k : Int, e = .returned (.int .i64 k) ∧ decide (0 ≤ k) = L.any P) ∧ Below w.heap.size w w' := by
  have HF := Lib.hid hF
  obtain ⟨A, c, rfl, hA⟩ := hv
  have HA := Lib.hid hA
  clear hA hF
  generalize hL : L.length = n at *
  have HL := Lib.hid hL
  clear hL
  unfold sqv at *
  go_enter Tryz.func95, Tryz.ntmps95
  go_wp2_with fail
  go_loopw [8] (fun k wr => ∃ i : Nat, k = .int .i64 (i : Int) ∧ i ≤ n ∧ (L.take i).any P = false ∧ Below w.heap.size w wr) (fun k _ => n - (intOf k).toNat)
  case atStart => exact ⟨0, rfl, Nat.zero_le _, rfl, Below.refl _ _⟩
  case round =>
    obtain ⟨i, rfl, hin, hno, hbel⟩ := hrel
    have HN := Lib.hid hno
    have HB := Lib.hid hbel
    clear hno hbel
    by_cases hlt : i < n
    · obtain ⟨s, ad, hs, hm, rfl, hb, h1, h2, h3⟩ := (HA.out.below HB.out).at_ HL.out hlt
      have HFs := Lib.hid (HF.out wr HB.out s hm)
      have HT := Lib.hid (show (L.take (i + 1)).any P = P s by
        obtain ⟨hi, e⟩ := List.getElem?_eq_some_iff.1 hs
        rw [List.take_succ_eq_append_getElem hi, List.any_append, HN.out, e]; simp)
      have HAn := Lib.hid (show P s = true → L.any P = true from fun h => List.any_eq_true.2 ⟨s, hm, h⟩)
      clear hs hm
      go_wp2_with fail
      refine HFs.out.mono ?_
      rintro e w1 ⟨rfl, hb1⟩
      have HB1 := Lib.hid (HB.out.trans (hb1.mono HB.out.size))
      clear hb1
      cases hp : P s
      · rw [hp] at HT
        clear hp
        go_wp2_with fail
        go_roundw
        case rel => exact ⟨i + 1, by go_num, by omega, HT.out, HB1.out⟩
        case measure => simp [intOf]; omega
      · have HY := Lib.hid (HAn.out hp)
        clear hp
        go_wp2_with fail
        go_ret
        exact ⟨⟨_, rfl, by rw [HY.out]; simp⟩, HB1.out⟩
    · have HE := Lib.hid (show L.any P = false by
        have h := HN.out
        rwa [List.take_of_length_le (by have := HL.out; omega)] at h)
      go_wp2_with fail
      go_ret
      exact ⟨⟨_, rfl, by rw [HE.out]; rfl⟩, HB.out⟩

set_option maxRecDepth 100000 in
set_option maxHeartbeats 2000000 in
theorem IndexMeets_any (g : Nat) (P : Sq → Bool) (v : Value) (L : List Sq) (w : World) (hv : SqSl w w.heap.size v L) (hn : L.length ≤ 1000000)
    (hF : ∀ X, Below w.heap.size w X → ∀ q ∈ L, Calls Tryz.prog 64 #[sqv q, .pointer (some ⟨g, 0, none⟩)] X fun e w' => e = .returned (.bool (P q)) ∧ Below X.heap.size X w') :
    Calls Tryz.prog 95 #[v, .func (.func 64) #[] #[.pointer (some ⟨g, 0, none⟩)]] w fun e w' => (∃ k : Int, e = .returned (.int .i64 k) ∧ decide (0 ≤ k) = L.any P) ∧ Below w.heap.size w w' := by
  have HF := Lib.hid hF
  obtain ⟨A, c, rfl, hA⟩ := hv
  have HA := Lib.hid hA
  clear hA hF
  generalize hL : L.length = n at *
  have HL := Lib.hid hL
  clear hL
  unfold sqv at *
  go_enter Tryz.func95, Tryz.ntmps95
  go_wp2_with fail
  go_loopw [8] (fun k wr => ∃ i : Nat, k = .int .i64 (i : Int) ∧ i ≤ n ∧ (L.take i).any P = false ∧ Below w.heap.size w wr) (fun k _ => n - (intOf k).toNat)
  case atStart => exact ⟨0, rfl, Nat.zero_le _, rfl, Below.refl _ _⟩
  case round =>
    obtain ⟨i, rfl, hin, hno, hbel⟩ := hrel
    have HN := Lib.hid hno
    have HB := Lib.hid hbel
    clear hno hbel
    by_cases hlt : i < n
    · obtain ⟨s, ad, hs, hm, rfl, hb, h1, h2, h3⟩ := (HA.out.below HB.out).at_ HL.out hlt
      have HFs := Lib.hid (HF.out wr HB.out s hm)
      have HT := Lib.hid (show (L.take (i + 1)).any P = P s by
        obtain ⟨hi, e⟩ := List.getElem?_eq_some_iff.1 hs
        rw [List.take_succ_eq_append_getElem hi, List.any_append, HN.out, e]; simp)
      have HAn := Lib.hid (show P s = true → L.any P = true from fun h => List.any_eq_true.2 ⟨s, hm, h⟩)
      clear hs hm
      go_wp2_with fail
      refine HFs.out.mono ?_
      rintro e w1 ⟨rfl, hb1⟩
      have HB1 := Lib.hid (HB.out.trans (hb1.mono HB.out.size))
      clear hb1
      cases hp : P s
      · rw [hp] at HT
        clear hp
        go_wp2_with fail
        go_roundw
        case rel => exact ⟨i + 1, by go_num, by omega, HT.out, HB1.out⟩
        case measure => simp [intOf]; omega
      · have HY := Lib.hid (HAn.out hp)
        clear hp
        go_wp2_with fail
        go_ret
        exact ⟨⟨_, rfl, by rw [HY.out]; simp⟩, HB1.out⟩
    · have HE := Lib.hid (show L.any P = false by
        have h := HN.out
        rwa [List.take_of_length_le (by have := HL.out; omega)] at h)
      go_wp2_with fail
      go_ret
      exact ⟨⟨_, rfl, by rw [HE.out]; rfl⟩, HB.out⟩

set_option maxHeartbeats 1000000 in
theorem containsHas_any (g : Nat) (P : Sq → Bool) (v : Value) (L : List Sq) (w : World) (hv : SqSl w w.heap.size v L) (hn : L.length ≤ 1000000)
    (hF : ∀ X, Below w.heap.size w X → ∀ q ∈ L, Calls Tryz.prog 60 #[sqv q, .pointer (some ⟨g, 0, none⟩)] X fun e w' => e = .returned (.bool (P q)) ∧ Below X.heap.size X w') :
    Calls Tryz.prog 59 #[v, .func (.func 60) #[] #[.pointer (some ⟨g, 0, none⟩)]] w fun e w' => e = .returned (.bool (L.any P)) ∧ Below w.heap.size w w' := by
  have HI := Lib.hid (IndexHas_any g P v L w hv hn hF)
  clear hF
  go_enter Tryz.func59, Tryz.ntmps59
  go_wp2_with fail
  refine HI.out.mono ?_
  rintro e w1 ⟨⟨k, rfl, hk⟩, hb⟩
  have HK := Lib.hid (And.intro hk hb)
  clear hk hb
  go_wp2_with fail
  go_ret
  exact ⟨ret_b HK.out.1, HK.out.2⟩

set_option maxHeartbeats 1000000 in
theorem containsMeets_any (g : Nat) (P : Sq → Bool) (v : Value) (L : List Sq) (w : World) (hv : SqSl w w.heap.size v L) (hn : L.length ≤ 1000000)
    (hF : ∀ X, Below w.heap.size w X → ∀ q ∈ L, Calls Tryz.prog 64 #[sqv q, .pointer (some ⟨g, 0, none⟩)] X fun e w' => e = .returned (.bool (P q)) ∧ Below X.heap.size X w') :
    Calls Tryz.prog 59 #[v, .func (.func 64) #[] #[.pointer (some ⟨g, 0, none⟩)]] w fun e w' => e = .returned (.bool (L.any P)) ∧ Below w.heap.size w w' := by
  have HI := Lib.hid (IndexMeets_any g P v L w hv hn hF)
  clear hF
  go_enter Tryz.func59, Tryz.ntmps59
  go_wp2_with fail
  refine HI.out.mono ?_
  rintro e w1 ⟨⟨k, rfl, hk⟩, hb⟩
  have HK := Lib.hid (And.intro hk hb)
  clear hk hb
  go_wp2_with fail
  go_ret
  exact ⟨ret_b HK.out.1, HK.out.2⟩

set_option maxHeartbeats 1000000 in
theorem meets1_any (q s : Sq) (g : Nat) (w : World) (hb : w.heap[g]? = some (sqO s)) (hq : q.okB = true) (hs : s.okB = true) :
    Calls Tryz.prog 64 #[sqv q, .pointer (some ⟨g, 0, none⟩)] w fun e w' => e = .returned (.bool (withinS s q || withinS q s)) ∧ Below w.heap.size w w' := by
  have HW := Lib.hid (fun w => within_any s q w hs hq)
  have HW2 := Lib.hid (fun w => within_any q s w hq hs)
  obtain ⟨c0, c1, c2⟩ := sq_cells (s := s) ((Below.heap_alloc w (.cells #[.int .i64 q.l, .int .i64 q.x, .int .i64 q.y] 31) g (Array.getElem?_eq_some_iff.1 hb).1).trans hb)
  have HBx := Lib.hid hb
  have hz : g < w.heap.size := (Array.getElem?_eq_some_iff.1 hb).1
  clear hb hq hs
  unfold sqv at *
  generalize withinS s q = u at *
  generalize withinS q s = z at *
  go_enter Tryz.func64, Tryz.ntmps64
  go_wp2_with fail
  refine (HW.out _).mono ?_
  rintro e w1 ⟨rfl, hb1⟩
  have HB := Lib.hid (show Below w.heap.size w w1 ∧ w1.heap[g]? = some (sqO s) ∧ w1.heap[w.heap.size]? = some (sqO q) from
    ⟨(below_new _).trans (hb1.mono (by simp)), (((below_new _).trans (hb1.mono (by simp))).block g hz).trans HBx.out, (hb1.block w.heap.size (by simp)).trans (World.alloc_heap_new w _)⟩)
  clear hb1 c0 c1 c2
  obtain ⟨c0, c1, c2⟩ := sq_cells (s := s) HB.out.2.1
  obtain ⟨d0, d1, d2⟩ := sq_cells (s := q) HB.out.2.2
  have hz1 : g < w1.heap.size := (Array.getElem?_eq_some_iff.1 HB.out.2.1).1
  have hz2 : w.heap.size < w1.heap.size := (Array.getElem?_eq_some_iff.1 HB.out.2.2).1
  cases u
  · go_wp2_with fail
    refine (HW2.out _).mono ?_
    rintro e w2 ⟨rfl, hb2⟩
    have HB2 := Lib.hid (HB.out.1.trans (hb2.mono HB.out.1.size))
    clear hb2
    go_wp2_with fail
    go_ret
    exact ⟨ret_b (by simp), HB2.out⟩
  · go_wp2_with fail
    go_ret
    exact ⟨ret_b (by simp), HB.out.1⟩

/-- what Has and Meets return -/
def askOut (L : List Sq) (s : Sq) (b : Bool) : Bool × Int := if regB L then (if s.okB then (b, 0) else (false, 10)) else (false, 11)
def hasS (L : List Sq) (s : Sq) : Bool := L.any fun q => withinS s q
def meetsS (L : List Sq) (s : Sq) : Bool := L.any fun q => withinS s q || withinS q s

set_option maxHeartbeats 2000000 in
theorem checkBoth_any (v : Value) (L : List Sq) (s : Sq) (w : World) (hv : SqSl w w.heap.size v L) (hn : L.length ≤ 1000000) :
    Calls Tryz.prog 58 #[v, sqv s] w fun e w' => e = .returned (.int .i64 (askOut L s true).2) ∧ Below w.heap.size w w' := by
  have HR := Lib.hid (fun (w1 : World) (hb : Below w.heap.size w w1) => ValidRegion_any v L w1 ((hv.below hb).mono hb.size) hn)
  have HV := Lib.hid (fun w => ValidSquare_any s.l s.x s.y w)
  rw [show Sq.mk s.l s.x s.y = s from rfl] at HV
  have HO := Lib.hid (show askOut L s true = if regB L then (if s.okB then (true, 0) else (false, 10)) else (false, 11) from rfl)
  clear hv
  unfold sqv
  cases hr : regB L
  · rw [hr] at HR HO
    clear hr
    go_enter Tryz.func58, Tryz.ntmps58
    go_wp2_with fail
    refine (HR.out _ (below_new _)).mono ?_
    rintro e w1 ⟨rfl, hb1⟩
    have HB := Lib.hid (show Below w.heap.size w w1 from (below_new _).trans (hb1.mono (by simp)))
    clear hb1
    go_wp2_with fail
    go_ret
    exact ⟨ret_i (by rw [HO.out]; rfl), HB.out⟩
  · rw [hr] at HR HO
    clear hr
    cases hs : s.okB
    all_goals
      rw [hs] at HV HO
      clear hs
      go_enter Tryz.func58, Tryz.ntmps58
      go_wp2_with fail
      refine (HR.out _ (below_new _)).mono ?_
      rintro e w1 ⟨rfl, hb1⟩
      have HB := Lib.hid (show Below w.heap.size w w1 from (below_new _).trans (hb1.mono (by simp)))
      obtain ⟨c0, c1, c2⟩ := sq_cells (s := s) ((hb1.block w.heap.size (by simp)).trans (World.alloc_heap_new w _))
      clear hb1
      go_wp2_with fail
      refine (HV.out _).mono ?_
      rintro e w2 ⟨rfl, hb2⟩
      have HB2 := Lib.hid (HB.out.trans (hb2.mono HB.out.size))
      clear hb2 c0 c1 c2
      go_wp2_with fail
      go_ret
      exact ⟨ret_i (by rw [HO.out]; rfl), HB2.out⟩

set_option maxHeartbeats 2000000 in
theorem Has_any (v : Value) (L : List Sq) (s : Sq) (w : World) (hv : SqSl w w.heap.size v L) (hn : L.length ≤ 1000000) :
    Calls Tryz.prog 21 #[v, sqv s] w fun e w' => e = .returned (.tuple #[.bool (askOut L s (hasS L s)).1, .int .i64 (askOut L s (hasS L s)).2]) ∧ Below w.heap.size w w' := by
  have HC := Lib.hid (fun (w1 : World) (hb : Below w.heap.size w w1) => checkBoth_any v L s w1 ((hv.below hb).mono hb.size) hn)
  have HVs := Lib.hid (fun (w1 : World) (hb : Below w.heap.size w w1) => (hv.below hb).mono hb.size)
  clear hv
  by_cases hok : regB L = true ∧ s.okB = true
  · have HO := Lib.hid (show askOut L s (hasS L s) = (hasS L s, 0) by unfold askOut; rw [hok.1, hok.2]; rfl)
    rw [show askOut L s true = (true, 0) by unfold askOut; rw [hok.1, hok.2]; rfl] at HC
    have HOk := Lib.hid hok
    have HRo := Lib.hid (reg_ok hok.1)
    clear hok
    unfold sqv at *
    go_enter Tryz.func21, Tryz.ntmps21
    go_wp2_with fail
    refine (HC.out _ (below_new _)).mono ?_
    rintro e w1 ⟨rfl, hb1⟩
    have HB := Lib.hid (show Below w.heap.size w w1 ∧ w1.heap[w.heap.size]? = some (sqO s) from ⟨(below_new _).trans (hb1.mono (by simp)), (hb1.block w.heap.size (by simp)).trans (World.alloc_heap_new w _)⟩)
    clear hb1
    have HF := Lib.hid (containsHas_any w.heap.size (fun q => withinS s q) v L w1 (HVs.out w1 HB.out.1) hn (fun X hX q hq => has1_any q s w.heap.size X ((hX.block _ (Array.getElem?_eq_some_iff.1 HB.out.2).1).trans HB.out.2) (HRo.out.2 q hq) HOk.out.2))
    go_wp2_with fail
    refine HF.out.mono ?_
    rintro e w2 ⟨rfl, hb2⟩
    have HB2 := Lib.hid (HB.out.1.trans (hb2.mono HB.out.1.size))
    clear hb2
    go_wp2_with fail
    go_ret2
    exact ⟨by rw [HO.out]; rfl, HB2.out⟩
  · have HO := Lib.hid (show ∃ er : Int, askOut L s (hasS L s) = (false, er) ∧ (askOut L s true).2 = er ∧ (er != 0) = true by
      unfold askOut
      cases hr : regB L
      · exact ⟨11, rfl, rfl, rfl⟩
      · cases hs : s.okB
        · exact ⟨10, rfl, rfl, rfl⟩
        · exact absurd ⟨hr, hs⟩ hok)
    obtain ⟨er, e1, e2, e3⟩ := HO.out
    rw [e2] at HC
    have HE := Lib.hid e1
    clear e1 e2 hok HO
    unfold sqv
    go_enter Tryz.func21, Tryz.ntmps21
    go_wp2_with fail
    refine (HC.out _ (below_new _)).mono ?_
    rintro e w1 ⟨rfl, hb1⟩
    have HB := Lib.hid (show Below w.heap.size w w1 from (below_new _).trans (hb1.mono (by simp)))
    clear hb1
    go_wp2_with fail
    go_ret2
    exact ⟨by rw [HE.out]; rfl, HB.out⟩

set_option maxHeartbeats 2000000 in
theorem Meets_any (v : Value) (L : List Sq) (s : Sq) (w : World) (hv : SqSl w w.heap.size v L) (hn : L.length ≤ 1000000) :
    Calls Tryz.prog 23 #[v, sqv s] w fun e w' => e = .returned (.tuple #[.bool (askOut L s (meetsS L s)).1, .int .i64 (askOut L s (meetsS L s)).2]) ∧ Below w.heap.size w w' := by
  have HC := Lib.hid (fun (w1 : World) (hb : Below w.heap.size w w1) => checkBoth_any v L s w1 ((hv.below hb).mono hb.size) hn)
  have HVs := Lib.hid (fun (w1 : World) (hb : Below w.heap.size w w1) => (hv.below hb).mono hb.size)
  clear hv
  by_cases hok : regB L = true ∧ s.okB = true
  · have HO := Lib.hid (show askOut L s (meetsS L s) = (meetsS L s, 0) by unfold askOut; rw [hok.1, hok.2]; rfl)
    rw [show askOut L s true = (true, 0) by unfold askOut; rw [hok.1, hok.2]; rfl] at HC
    have HOk := Lib.hid hok
    have HRo := Lib.hid (reg_ok hok.1)
    clear hok
    unfold sqv at *
    go_enter Tryz.func23, Tryz.ntmps23
    go_wp2_with fail
    refine (HC.out _ (below_new _)).mono ?_
    rintro e w1 ⟨rfl, hb1⟩
    have HB := Lib.hid (show Below w.heap.size w w1 ∧ w1.heap[w.heap.size]? = some (sqO s) from ⟨(below_new _).trans (hb1.mono (by simp)), (hb1.block w.heap.size (by simp)).trans (World.alloc_heap_new w _)⟩)
    clear hb1
    have HF := Lib.hid (containsMeets_any w.heap.size (fun q => withinS s q || withinS q s) v L w1 (HVs.out w1 HB.out.1) hn (fun X hX q hq => meets1_any q s w.heap.size X ((hX.block _ (Array.getElem?_eq_some_iff.1 HB.out.2).1).trans HB.out.2) (HRo.out.2 q hq) HOk.out.2))
    go_wp2_with fail
    refine HF.out.mono ?_
    rintro e w2 ⟨rfl, hb2⟩
    have HB2 := Lib.hid (HB.out.1.trans (hb2.mono HB.out.1.size))
    clear hb2
    go_wp2_with fail
    go_ret2
    exact ⟨by rw [HO.out]; rfl, HB2.out⟩
  · have HO := Lib.hid (show ∃ er : Int, askOut L s (meetsS L s) = (false, er) ∧ (askOut L s true).2 = er ∧ (er != 0) = true by
      unfold askOut
      cases hr : regB L
      · exact ⟨11, rfl, rfl, rfl⟩
      · cases hs : s.okB
        · exact ⟨10, rfl, rfl, rfl⟩
        · exact absurd ⟨hr, hs⟩ hok)
    obtain ⟨er, e1, e2, e3⟩ := HO.out
    rw [e2] at HC
    have HE := Lib.hid e1
    clear e1 e2 hok HO
    unfold sqv
    go_enter Tryz.func23, Tryz.ntmps23
    go_wp2_with fail
    refine (HC.out _ (below_new _)).mono ?_
    rintro e w1 ⟨rfl, hb1⟩
    have HB := Lib.hid (show Below w.heap.size w w1 from (below_new _).trans (hb1.mono (by simp)))
    clear hb1
    go_wp2_with fail
    go_ret2
    exact ⟨by rw [HE.out]; rfl, HB.out⟩

/-! the area -/
def areaS (L : List Sq) : Int := (L.map fun s => (2 : Int) ^ (2 * s.l).toNat).sum
def areaOut (L : List Sq) : Int × Int := if regB L then (areaS L, 0) else (0, 11)
theorem area_one {s : Sq} (h : s.okB = true) : 1 ≤ (2 : Int) ^ (2 * s.l).toNat ∧ (2 : Int) ^ (2 * s.l).toNat ≤ 1048576 := by
  have h0 := ok_l h
  have h1 := two_pos (2 * s.l).toNat
  have h2 : (2 : Int) ^ (2 * s.l).toNat ≤ 2 ^ 20 := by
    have := Nat.pow_le_pow_right (n := 2) (by decide) (show (2 * s.l).toNat ≤ 20 by omega)
    have e : ((2 ^ (2 * s.l).toNat : Nat) : Int) ≤ ((2 ^ 20 : Nat) : Int) := Int.ofNat_le.2 this
    simpa using e
  exact ⟨by omega, by simpa using h2⟩
theorem area_bd : ∀ {L : List Sq}, (∀ s ∈ L, s.okB = true) → 0 ≤ areaS L ∧ areaS L ≤ L.length * 1048576
  | [], _ => by simp [areaS]
  | s :: L, h => by
    have ih := area_bd (L := L) fun t ht => h t (List.mem_cons_of_mem _ ht)
    have h1 := area_one (h s List.mem_cons_self)
    have e : areaS (s :: L) = (2 : Int) ^ (2 * s.l).toNat + areaS L := by simp [areaS]
    rw [e, List.length_cons]
    have e2 : ((L.length + 1 : Nat) : Int) * 1048576 = (L.length : Int) * 1048576 + 1048576 := by omega
    omega
theorem area_take {L : List Sq} {i : Nat} {s : Sq} (h : L[i]? = some s) : areaS (L.take (i + 1)) = areaS (L.take i) + (2 : Int) ^ (2 * s.l).toNat := by
  obtain ⟨hi, rfl⟩ := List.getElem?_eq_some_iff.1 h
  unfold areaS
  rw [List.take_succ_eq_append_getElem hi, List.map_append, List.sum_append]
  simp

set_option maxRecDepth 100000 in
set_option maxHeartbeats 4000000 in
theorem Area_any (v : Value) (L : List Sq) (w : World) (hv : SqSl w w.heap.size v L) (hn : L.length ≤ 1000000) :
    Calls Tryz.prog 19 #[v] w fun e w' => e = .returned (.tuple #[.int .i64 (areaOut L).1, .int .i64 (areaOut L).2]) ∧ Below w.heap.size w w' := by
  have HR := Lib.hid (ValidRegion_any v L w hv hn)
  have hv' := hv
  obtain ⟨A, c, rfl, hA⟩ := hv'
  have HA := Lib.hid hA
  clear hv hA
  cases hr : regB L
  · have HO := Lib.hid (show areaOut L = (0, 11) by unfold areaOut; rw [hr]; rfl)
    rw [hr] at HR
    clear hr
    go_enter Tryz.func19, Tryz.ntmps19
    go_wp2_with fail
    refine HR.out.mono ?_
    rintro e w1 ⟨rfl, hb1⟩
    have HB := Lib.hid hb1
    clear hb1
    go_wp2_with fail
    go_ret2
    exact ⟨by rw [HO.out]; rfl, HB.out⟩
  · have HO := Lib.hid (show areaOut L = (areaS L, 0) by unfold areaOut; rw [hr]; rfl)
    have HG := Lib.hid (reg_ok hr)
    rw [hr] at HR
    clear hr
    generalize hL : L.length = n at *
    have HL := Lib.hid hL
    clear hL
    go_enter Tryz.func19, Tryz.ntmps19
    go_wp2_with fail
    refine HR.out.mono ?_
    rintro e w1 ⟨rfl, hb1⟩
    have HB := Lib.hid hb1
    clear hb1
    go_wp2_with fail
    go_loopw [4, 12] (fun m k wr => ∃ i : Nat, k = .int .i64 (i : Int) ∧ m = .int .i64 (areaS (L.take i)) ∧ i ≤ n ∧ Below w.heap.size w wr) (fun _ k _ => n - (intOf k).toNat)
    case atStart => exact ⟨0, rfl, rfl, Nat.zero_le _, HB.out⟩
    case round =>
      obtain ⟨i, rfl, rfl, hin, hbel⟩ := hrel
      have HB2 := Lib.hid hbel
      clear hbel
      have hab := area_bd (L := L.take i) (fun s hs => HG.out.2 s (List.mem_of_mem_take hs))
      rw [List.length_take] at hab
      have hn4 : n ≤ 4096 := HG.out.1
      have hab2 : 0 ≤ areaS (L.take i) ∧ areaS (L.take i) ≤ 4294967296 := by
        have := HL.out
        refine ⟨hab.1, ?_⟩
        have h1 : ((min i L.length : Nat) : Int) ≤ 4096 := by omega
        omega
      obtain ⟨hab0, hab1⟩ := hab2
      clear hab
      by_cases hlt : i < n
      · obtain ⟨s, ad, hs, hm, rfl, hb, h1, h2, h3⟩ := (HA.out.below HB2.out).at_ HL.out hlt
        have HT := Lib.hid (area_take hs)
        obtain ⟨o0, o1⟩ := area_one (HG.out.2 s hm)
        have hl := ok_l (HG.out.2 s hm)
        have hl0 : 0 ≤ s.l := hl.1
        have hl1 : s.l ≤ 10 := hl.2
        clear hs hm hl
        generalize areaS (L.take i) = m0 at *
        have HB3 := Lib.hid (HB2.out.trans ((below_new (.cells #[.int .i64 s.l, .int .i64 s.x, .int .i64 s.y] 31)).mono HB2.out.size))
        go_wp2_with fail
        go_roundw
        case rel => exact ⟨i + 1, by go_num, by rw [HT.out], by omega, HB3.out⟩
        case measure => simp [intOf]; omega
      · have HE := Lib.hid (show areaS (L.take i) = areaS L by rw [List.take_of_length_le (by have := HL.out; omega)])
        go_wp2_with fail
        go_ret2
        exact ⟨by rw [HO.out, ← HE.out]; rfl, HB2.out⟩
end Go.Proofs.YtabolonlkocopaaGreatDoor
