
/- row: the squares of a level, in order. -/
import Derived.Test.YtabolonlkocopaaGreatDoorSort
import Derived.Maps.AppendAt
namespace Go.Proofs.YtabolonlkocopaaGreatDoor
open Go.RowKit Go.Plc

theorem infoSq : (Tryz.prog.info? 31).map (fun i => (i.zero, i.size, i.bytes)) = some (some (.agg #[.int .i64 0, .int .i64 0, .int .i64 0]), 3, 24) := by kernel_rfl

theorem cov_at (b : Nat → Nat) {i : Nat} (hi : i < 11) : (covA b)[i]? = some (.map (some (b i))) := by
  match i, hi with
  | 0, _ => rfl
  | 1, _ => rfl
  | 2, _ => rfl
  | 3, _ => rfl
  | 4, _ => rfl
  | 5, _ => rfl
  | 6, _ => rfl
  | 7, _ => rfl
  | 8, _ => rfl
  | 9, _ => rfl
  | 10, _ => rfl

theorem RowAt.grown {w w' : World} {b : Nat} {L : List Sq} (h : RowAt w b L) {row : Option Nat} (hg : w.grownBy w' row) (hne : some b ≠ row) : RowAt w' b L := h.block (hg.block b h.lt hne)

set_option maxRecDepth 100000 in
theorem keyOf_sq_inv {v : Value} {kl : Lit} (h : keyOf Tryz.prog 31 v = some kl) : ∃ s : Sq, v = sqv s ∧ SqFits s ∧ kl = keyL s := by
  obtain ⟨xs, L, rfl, hk, rfl⟩ := keyOf_top sqWide h
  obtain ⟨m, hm⟩ : ∃ m, Tryz.prog.types.size = m + 1 := ⟨Tryz.prog.types.size - 1, by have h : (31 : Nat) < Tryz.prog.types.size := sqRow; omega⟩
  rw [hm] at hk
  unfold Program.keyLits at hk
  rw [Tryz.underlying31] at hk
  have inv : ∀ (x : Value) (l : List Lit), Tryz.prog.keyLits (m + 1) 3 [x] = some l → ∃ a, x = .int .i64 a ∧ (Lit.int .i64 a).wf = true ∧ l = [.int .i64 a] := by
    intro x l hx
    unfold Program.keyLits at hx
    rw [Tryz.underlying3] at hx
    cases x <;> simp at hx
    obtain ⟨⟨rfl, hw⟩, rfl⟩ := hx
    exact ⟨_, rfl, hw, rfl⟩
  simp only [sqCells] at hk
  split at hk
  · rename_i hc
    obtain ⟨l⟩ := xs
    match l, hc.1 with
    | [a, b, c], _ =>
      simp only [Option.map_eq_some_iff] at hk
      obtain ⟨ls, hls, rfl⟩ := hk
      simp [intCells] at hls
      simp only [Option.bind_eq_some_iff, Option.some.injEq] at hls
      obtain ⟨la, ha, y1, ⟨lb, hb, y2, ⟨lc, hc', rfl⟩, rfl⟩, rfl⟩ := hls
      obtain ⟨n1, rfl, w1, rfl⟩ := inv _ _ ha
      obtain ⟨n2, rfl, w2, rfl⟩ := inv _ _ hb
      obtain ⟨n3, rfl, w3, rfl⟩ := inv _ _ hc'
      exact ⟨⟨n1, n2, n3⟩, rfl, ⟨w1, w2, w3⟩, rfl⟩
  · cases hk

/-- how far the loop over a map has come: P has been laid into the slice, R is still to come -/
structure RowIt (L P R : List Sq) (es : List (Lit × DU)) (b r base : Nat) (v : Value) (left : Lit → Bool) (cnt : Nat) (wr : World) : Prop where
  rg : wr.ranges Tryz.prog 31 RB b r L.length (.map es) left cnt
  perm : (P ++ R).Perm L
  l1 : ∀ s, SqFits s → left (keyL s) = decide (s ∈ R)
  own : wr.ownsRow base 31 3 v P.length (cellsOf P)
  nd : R.Nodup
  nn : v ≠ .slice none 0 0
theorem has_fits {es : List (Lit × DU)} {L : List Sq} (hp : es.Perm (L.map pairOf)) (hL : ∀ s ∈ L, SqFits s) (s : Sq) (hs : SqFits s) : Maps.has (.map es : DU) (keyL s) = decide (s ∈ L) := has_row hp hL hs
theorem news3 (w3 : World) (s : Sq) (o : Obj) : (∀ j u, [Value.int .i64 s.l, .int .i64 s.x, .int .i64 s.y][j]? = some u → ((w3.alloc o).alloc (.cells #[.int .i64 s.l, .int .i64 s.x, .int .i64 s.y] 31)).cell? ((⟨w3.heap.size + 1, 0, none⟩ : Addr).add j) = some u) ∧
    ∀ u ∈ [Value.int .i64 s.l, .int .i64 s.x, .int .i64 s.y], u.oneCell' = true := by
  refine ⟨fun j u hj => ?_, fun u hu => by simp at hu; rcases hu with rfl | rfl | rfl <;> rfl⟩
  have e : (⟨w3.heap.size + 1, 0, none⟩ : Addr).add j = ⟨w3.heap.size + 1, j, none⟩ := by
    unfold Addr.add
    split
    · rename_i h; rw [h]
    · simp
  rw [e, show w3.heap.size + 1 = (w3.alloc o).heap.size by simp, World.cell?_alloc_new]
  simpa using hj
theorem ret_sl {A : Option Addr} {n m c : Nat} (h : n = m) : Ending.returned (.slice A n c) = .returned (.slice A m c) := by rw [h]
/-- an element of a map of bools -/
structure Flg where
  v : Bool
theorem RowIt.step {L P R : List Sq} {es : List (Lit × DU)} {b r base : Nat} {v v' : Value} {left : Lit → Bool} {cnt cnt' : Nat} {wr w4 : World} (h : RowIt L P R es b r base v left cnt wr) {s : Sq} {kl : Lit}
    (hs : SqFits s) (hk : kl = keyL s) (hl : left kl = true) (hrg : w4.ranges Tryz.prog 31 RB b r L.length (.map es) (fun z => left z && !z.sameKey kl) cnt')
    (hown : w4.ownsRow base 31 3 v' (P.length + 1) (cellsOf P ++ [.int .i64 s.l, .int .i64 s.x, .int .i64 s.y])) (hnn : v' ≠ .slice none 0 0) :
    RowIt L (P ++ [s]) (R.filter fun t => !decide (t = s)) es b r base v' (fun z => left z && !z.sameKey kl) cnt' w4 := by
  subst hk
  have hm : s ∈ R := by have := h.l1 s hs; rw [hl] at this; simpa using this.symm
  refine ⟨hrg, ?_, fun t ht => ?_, ?_, h.nd.filter _, hnn⟩
  · have p1 : ((R.filter fun t => !decide (t = s))).Perm (R.erase s) := by
      rw [h.nd.erase_eq_filter]
      exact List.Perm.of_eq (List.filter_congr fun t _ => by simp [bne, BEq.beq])
    refine List.Perm.trans ?_ h.perm
    rw [List.append_assoc]
    exact List.Perm.append_left P ((p1.cons s).trans (List.perm_cons_erase hm).symm)
  · rw [h.l1 t ht, sameKey_iff ht hs]
    by_cases e : t = s <;> simp [e, List.mem_filter]
  · have : cellsOf (P ++ [s]) = cellsOf P ++ [.int .i64 s.l, .int .i64 s.x, .int .i64 s.y] := by unfold cellsOf; rw [List.flatMap_append]; rfl
    rw [this, List.length_append]; exact hown
theorem ownsRow_ne {w : World} {base n : Nat} {v : Value} {xs : List Value} {k : Nat} {o : Obj} (h : w.ownsRow base 31 3 v n xs) (ho : w.heap[k]? = some o) (hno : ∀ cs t fr, o ≠ .cells cs t fr) : some k ≠ v.ownBlock := by
  rcases h.2 with ⟨rfl, _⟩ | ⟨g, cap, cur, rfl, _, hg, _⟩
  · simp [Value.ownBlock]
  · intro e
    simp [Value.ownBlock] at e
    subst e
    rw [ho] at hg
    cases hg
    exact hno _ _ _ rfl

set_option maxRecDepth 100000 in
set_option maxHeartbeats 1000000 in
theorem row_any (b : Nat → Nat) (C : List Sq) (i : Nat) (hi : i < 11) (w : World) (h : Cov w b C) (hn : C.length ≤ 1000000) :
    Calls Tryz.prog 113 #[.agg (covA b), .int .i64 i] w fun e w' => ∃ g c, e = .returned (.slice (some ⟨g, 0, none⟩) (rowS C i).length c) ∧ w.heap.size ≤ g ∧ g < w'.heap.size ∧ SqA w' w'.heap.size (some ⟨g, 0, none⟩) (rowS C i) ∧ Below w.heap.size w w' := by
  have hix := cov_at b hi
  have hrow := (h.row i hi).alloc (.cells (covA b) 54)
  have hlen := fun ty => hrow.len ty
  have hle := lvl_le C i
  have HRS := Lib.hid (show rowS C i = sortS (lvlOf C i) from rfl)
  generalize lvlOf C i = L at *
  generalize hnL : L.length = n at *
  have HNL := Lib.hid hnL
  clear hnL
  have HH := Lib.hid h
  obtain ⟨i0, hi0, hz0, hz1, hz2⟩ := info_parts infoSq
  obtain ⟨w1, hmk, hown, hg1⟩ := run_make_own (P := Tryz.prog) (w.alloc (.cells (covA b) 54)) (w.heap.size + 1) 22 31 i0 _ 3 Tryz.underlying22 hi0 hz0 hz1 .i64 .i64 n (by rw [hz2]; omega) (by unfold maxLen; omega) (by simp)
  have hrow1 := hrow.grown hg1 (by simp)
  obtain ⟨es, hmap, hperm, hnd, hfit⟩ := hrow1
  have HM := Lib.hid (show w1.ownsMap Tryz.prog 31 RB (b i) L.length (.map es) ∧ es.Perm (L.map pairOf) ∧ L.Nodup ∧ ∀ s ∈ L, SqFits s from ⟨hmap, hperm, hnd, hfit⟩)
  have HW := Lib.hid (show w1.ownsRow (w.heap.size + 1) 31 3 (.slice (some ⟨w.heap.size + 1, 0, none⟩) 0 n) 0 [] ∧ Below w.heap.size w w1 ∧ w.heap.size + 1 ≤ w1.heap.size from
    ⟨by simpa using hown, (below_new _).trans ((Below.refl _ _).grown hg1 (by simp) (fun k e => by cases e)), by have := hg1.size; simpa using this⟩)
  have hc1 : w1.cell? ⟨w.heap.size, i, none⟩ = some (.map (some (b i))) := by
    rw [cell_of_row w1 w.heap.size i (covA b) 54 (0, 0) ((hg1.block _ (by simp) (by simp)).trans (heap_alloc_new w _))]; exact hix
  rw [World.size_alloc] at hmk
  clear hmap hperm hnd hfit hown hg1 hrow h
  have H0 := Lib.hid (show i0.size = 3 ∧ i0.bytes = 24 ∧ Tryz.prog.info? 31 = some i0 ∧ i0.zero = some (.agg #[.int .i64 0, .int .i64 0, .int .i64 0]) from ⟨hz1, hz2, hi0, hz0⟩)
  clear hz0 hz1 hz2 hi0
  go_enter Tryz.func113, Tryz.ntmps113
  go_wp2_with (first | (at_range; refine wpList_range_own _ rfl _ 52 rfl 31 4 KSq Tryz.underlying52 RB (b i) L.length (.map es) rfl HM.out.1 ?_; intro w2 hrg2 hg2 hs2))
  (try go_frame)
  have HIt := Lib.hid (show RowIt L [] L es (b i) w1.heap.size (w.heap.size + 1) (.slice (some ⟨w.heap.size + 1, 0, none⟩) 0 n) (Maps.has (.map es : DU)) (Maps.size (.map es : DU)) w2 from
    ⟨hrg2, List.Perm.refl _, fun s hs => has_row HM.out.2.1 HM.out.2.2.2 hs, HW.out.1.kept hg2 (.inr (by simp [Value.ownBlock])), HM.out.2.2.1, by simp⟩)
  have HB2 := Lib.hid (show Below w.heap.size w w2 ∧ w.heap.size + 1 ≤ w2.heap.size from ⟨(HW.out.2.1).trans (((Below.refl _ _).grown hg2 (Nat.le_refl _) (fun k e => by cases e)).mono HW.out.2.1.size), by have := HW.out.2.2; omega⟩)
  clear hrg2 hg2 hs2
  have HRr := Lib.hid (show w.heap.size + 1 ≤ w1.heap.size from HW.out.2.2)
  generalize w1.heap.size = r at *
  go_loopw [5] (fun v wr => ∃ P R left cnt, RowIt L P R es (b i) r (w.heap.size + 1) v left cnt wr ∧ Below w.heap.size w wr ∧ w.heap.size + 1 ≤ wr.heap.size) (fun _ wr => wr.rangeLeft (b i) r)
  case atStart => exact ⟨[], L, _, _, HIt.out, HB2.out⟩
  case round =>
    obtain ⟨P, R, left, cnt, hit, hbl⟩ := hrel
    have HI := Lib.hid hit
    have HBl := Lib.hid hbl
    clear hit hbl
    go_wp2_with (first | (at_next; refine wpList_next_ranges (α := Sq) (β := Flg) _ rfl _ rfl 31 KSq RB sqv (fun f => Value.bool f.v) (fun _ _ hk => by obtain ⟨s, e, _⟩ := keyOf_sq_inv hk; exact ⟨s, e⟩) (fun _ _ hv => by obtain ⟨x, e, _⟩ := plainElem_bool_inv Tryz.underlying4 hv; exact ⟨⟨x⟩, e⟩) (b i) r L.length (.map es) left cnt rfl HI.out.rg ?_ ?_))
    · intro hc0 hl0
      have HL0 := Lib.hid hl0
      clear hc0 hl0
      have hR : R = [] := by
        cases R with
        | nil => rfl
        | cons t r' =>
          exfalso
          have ht : SqFits t := HM.out.2.2.2 t (HI.out.perm.mem_iff.1 (by simp))
          have h1 := HI.out.l1 t ht
          rw [HL0.out] at h1
          simp at h1
      subst hR
      have HP := Lib.hid (show P.Perm L by have := HI.out.perm; rwa [List.append_nil] at this)
      have HSo := Lib.hid (show sortS P = rowS C i by
        rw [HRS.out]
        exact perm_sorted_eq leS_anti ((sortS_perm P).trans (HP.out.trans (sortS_perm L).symm)) (sortS_sorted P) (sortS_sorted L))
      have HPn := Lib.hid (show P.length ≤ 1000000 by have := HP.out.length_eq; have := HNL.out; omega)
      obtain ⟨g, cap, cur, rfl, hg1, hg2, -, -, -, hg3⟩ := HI.out.own.2.resolve_left (fun h => HI.out.nn h.1)
      have HG := Lib.hid (And.intro hg1 (And.intro hg2 hg3))
      clear hg1 hg2 hg3
      go_wp2_with fail
      refine (sort_any g cap P wr HG.out.2.1 HG.out.2.2 HPn.out).mono ?_
      rintro e w5 ⟨rfl, hsq, hbut⟩
      have H5 := Lib.hid (show P.length = (rowS C i).length ∧ w.heap.size ≤ g ∧ g < w5.heap.size ∧ SqA w5 w5.heap.size (some ⟨g, 0, none⟩) (rowS C i) ∧ Below w.heap.size w w5 from
        ⟨by rw [← HSo.out, (sortS_perm P).length_eq], by have := HG.out.1; omega, Nat.lt_of_lt_of_le (Array.getElem?_eq_some_iff.1 HG.out.2.1).1 hbut.size, HSo.out ▸ hsq, HBl.out.1.trans ⟨hbut.os, hbut.tape, hbut.output, hbut.size, fun k hk => hbut.block k (by have := HBl.out.2; omega) (by have := HG.out.1; omega)⟩⟩)
      clear hsq hbut
      go_wp2_with fail
      go_ret
      exact ⟨g, cap, ret_sl H5.out.1, H5.out.2⟩
    · intro s c kl y1 y2 w3 cnt3 hkey hlk hv hat hrg3 hlt3 hg3 hs3 hen
      have HS3 := Lib.hid (show keyOf Tryz.prog 31 (sqv s) = some kl ∧ left kl = true ∧ w3.ranges Tryz.prog 31 RB (b i) r L.length (.map es) (fun z => left z && !z.sameKey kl) cnt3 ∧ cnt3 < cnt ∧ wr.grownBy w3 (some r) ∧ w3.heap.size = wr.heap.size from ⟨hkey, hlk, hrg3, hlt3, hg3, hs3⟩)
      clear hkey hlk hv hat hrg3 hlt3 hg3 hs3
      have hl3 : wr.heap.size ≤ w3.heap.size := Nat.le_of_eq HS3.out.2.2.2.2.2.symm
      obtain ⟨s', es', hfit, hkl⟩ := keyOf_sq_inv HS3.out.1
      have hss : s' = s := by unfold sqv at es'; simp at es'; exact (Sq.ext3 es'.1 es'.2.1 es'.2.2).symm
      subst hss
      have HF := Lib.hid (And.intro hfit hkl)
      clear hfit hkl es'
      have hne : some r ≠ u5.ownBlock := by
        obtain ⟨es1, ck, si, se, c0, _, _, _, _, hr, _⟩ := HI.out.rg
        exact ownsRow_ne HI.out.own hr (fun _ _ _ e => by cases e)
      have HO := Lib.hid (((HI.out.own.kept HS3.out.2.2.2.2.1 (.inr (fun e => hne e.symm))).alloc (.cells #[.int .i64 s'.l, .int .i64 s'.x, .int .i64 s'.y] 31)).alloc (.cells #[.int .i64 s'.l, .int .i64 s'.x, .int .i64 s'.y] 31))
      clear hne
      have hPn : P.length < n := by
        have := HI.out.perm.length_eq
        have hm : s' ∈ R := by have h1 := HI.out.l1 s' HF.out.1; rw [← HF.out.2, HS3.out.2.1] at h1; simpa using h1.symm
        have := List.length_pos_of_mem hm
        have := HNL.out
        simp at *; omega
      unfold sqv at hen ⊢
      have HN := Lib.hid (news3 w3 s' (.cells #[.int .i64 s'.l, .int .i64 s'.x, .int .i64 s'.y] 31))
      have HC3 := Lib.hid (show P.length + 1 ≤ maxLen ∧ (P.length + 1) * 24 ≤ 140737488355328 ∧ w.heap.size + 1 ≤ ((w3.alloc (.cells #[.int .i64 s'.l, .int .i64 s'.x, .int .i64 s'.y] 31)).alloc (.cells #[.int .i64 s'.l, .int .i64 s'.x, .int .i64 s'.y] 31)).heap.size from
        ⟨by unfold maxLen; omega, by omega, by have := HBl.out.2; simp; omega⟩)
      go_wp2_with (at_builtin; refine wpList_append_own _ rfl (.tmp 20) (.tmp 22) 22 rfl (w.heap.size + 1) 31 i0 (.agg #[.int .i64 0, .int .i64 0, .int .i64 0]) 3 24 Tryz.underlying22 H0.out.2.2.1 H0.out.2.2.2 H0.out.1 H0.out.2.1 rfl (by decide) u5 P.length (cellsOf P) rfl HO.out ⟨w3.heap.size + 1, 0, none⟩ 1 1 [.int .i64 s'.l, .int .i64 s'.x, .int .i64 s'.y] rfl rfl HN.out.1 HN.out.2 HC3.out.1 HC3.out.2.1 HC3.out.2.2 ?_; intro v4 w4 hown4 hg4 hnn4)
      have hne : some r ≠ u5.ownBlock ∧ some (b i) ≠ u5.ownBlock := by
        obtain ⟨es1, ck, si, se, c0, hmm, _, _, _, hr, _⟩ := HI.out.rg
        exact ⟨ownsRow_ne HI.out.own hr (fun _ _ _ e => by cases e), ownsRow_ne HI.out.own hmm (fun _ _ _ e => by cases e)⟩
      have hrg4 := ((HS3.out.2.2.1.alloc (.cells #[.int .i64 s'.l, .int .i64 s'.x, .int .i64 s'.y] 31)).alloc (.cells #[.int .i64 s'.l, .int .i64 s'.x, .int .i64 s'.y] 31)).kept hg4 hne.2 hne.1
      have hb4 : Below w.heap.size w w4 := by
        refine (((HBl.out.1.grown HS3.out.2.2.2.2.1 HBl.out.1.size (fun k e => by cases e; have := HRr.out; omega)).alloc (by have := HBl.out.2; omega) _).alloc (by have := HBl.out.2; simp; omega) _).grown hg4 (by have := HBl.out.2; simp; omega) (fun k e => ?_)
        have := (HI.out.own.lt k e).1; omega
      have hs4 : w.heap.size + 1 ≤ w4.heap.size := by have h1 := hg4.size; have := HBl.out.2; simp at h1; omega
      have hfin := HI.out.step HF.out.1 HF.out.2 HS3.out.2.1 hrg4 hown4 (fun e => by have := (hnn4.1 e).2; omega)
      refine ⟨⟨_, _, _, _, hfin, hb4, hs4⟩, ?_⟩
      rw [hrg4.left_eq, HI.out.rg.left_eq]
      exact HS3.out.2.2.2.1
end Go.Proofs.YtabolonlkocopaaGreatDoor
