/- The reference's numbers of a text. -/
import Derived.Test.YtabolonlkocopaaGreatDoorTxP
namespace Go.Proofs.YtabolonlkocopaaGreatDoor
open Go.RowKit Go.Plc

/-- the numbers of a text between other bytes; none of them may exceed six digits -/
def partsRun : List UInt8 → List Int → Bool → Option (List Int)
  | [], L, _ => some L
  | c :: r, L, true => if 48 ≤ c.toNat ∧ c.toNat ≤ 57 then partsRun r (L ++ [(c.toNat : Int) - 48]) false else partsRun r L true
  | c :: r, L, false => if 48 ≤ c.toNat ∧ c.toNat ≤ 57 then (if 999999 < 10 * L.getLastD 0 + ((c.toNat : Int) - 48) then none else partsRun r (L.dropLast ++ [10 * L.getLastD 0 + ((c.toNat : Int) - 48)]) false) else partsRun r L true
def partsS (cs : List UInt8) : Option (List Int) := if 40 < cs.length then none else partsRun cs [] true

theorem own_stepJ {w w' : World} {base n z : Nat} {t : TypeId} {v : Value} {xs : List Value} (h : w.ownsRow base t z v n xs) (hb : Below w.heap.size w w') : w'.ownsRow base t z v n xs :=
  h.kept (grown_of_below hb none) (by rcases Classical.em (v.ownBlock = none) with h | h; exact .inl h; exact .inr h)
/-- a row of the call's own, beside a world in which nothing is written -/
structure OwJ (W : World) (t : TypeId) (z : Nat) (v : Value) (n : Nat) (xs : List Value) (X : World) : Prop where
  bel : Below W.heap.size W X
  own : X.ownsRow W.heap.size t z v n xs
theorem OwJ.start (W : World) (t : TypeId) (z : Nat) : OwJ W t z (.slice none 0 0) 0 [] W := ⟨Below.refl _ _, World.ownsRow_nil _ _ _ _⟩
theorem OwJ.step {W X Y : World} {t : TypeId} {z n : Nat} {v : Value} {xs : List Value} (h : OwJ W t z v n xs X) (hb : Below X.heap.size X Y) : OwJ W t z v n xs Y := ⟨h.bel.trans (hb.mono h.bel.size), own_stepJ h.own hb⟩
theorem OwJ.grown {W X Y Z : World} {t : TypeId} {z n n' : Nat} {v v' : Value} {xs xs' : List Value} (h : OwJ W t z v n xs X) (hb : Below X.heap.size X Y) (hg : Y.grownBy Z v.ownBlock) (ho : Z.ownsRow W.heap.size t z v' n' xs') : OwJ W t z v' n' xs' Z :=
  ⟨(h.step hb).bel.grown hg (h.step hb).bel.size (fun r e => ((h.step hb).own.lt r e).1), ho⟩
theorem OwJ.bound {W X : World} {t : TypeId} {z n : Nat} {v : Value} {xs : List Value} (h : OwJ W t z v n xs X) : W.heap.size ≤ X.heap.size := h.bel.size
theorem own_last {W : World} {base : Nat} {v : Value} {pre : List Int} {x : Int} (h : W.ownsRow base 3 1 v (pre.length + 1) (intsV (pre ++ [x]))) :
    ∃ g cap, v = .slice (some ⟨g, 0, none⟩) (pre.length + 1) cap ∧ base ≤ g ∧ g < W.heap.size ∧ W.cell? ⟨g, pre.length, none⟩ = some (.int .i64 x) ∧ W.frozen? ⟨g, pre.length, none⟩ = false := by
  have h0 := h
  obtain ⟨hl, ⟨_, h0'⟩ | ⟨g, cap, cur, rfl, hb, hg, _⟩⟩ := h
  · omega
  · refine ⟨g, cap, rfl, hb, (Array.getElem?_eq_some_iff.1 hg).1, ?_, h0.frozenAt _⟩
    rw [h0.cellAt _ (by omega)]
    simp [intsV]
theorem own_set {W : World} {base g cap : Nat} {pre : List Int} {x y : Int} (h : W.ownsRow base 3 1 (.slice (some ⟨g, 0, none⟩) (pre.length + 1) cap) (pre.length + 1) (intsV (pre ++ [x]))) :
    (W.setCell ⟨g, pre.length, none⟩ (.int .i64 y)).ownsRow base 3 1 (.slice (some ⟨g, 0, none⟩) (pre.length + 1) cap) (pre.length + 1) (intsV (pre ++ [y])) ∧ W.grownBy (W.setCell ⟨g, pre.length, none⟩ (.int .i64 y)) (some g) := by
  obtain ⟨h1, h2⟩ := h.stored pre.length (.int .i64 y)
  refine ⟨?_, h2⟩
  have e : (intsV (pre ++ [x])).set pre.length (.int .i64 y) = intsV (pre ++ [y]) := by simp [intsV]
  rwa [e] at h1

/-- what parts returns -/
def PartsRes (cs : List UInt8) (w : World) (e : Ending) (w' : World) : Prop :=
  ((∃ L v, partsS cs = some L ∧ e = .returned (.tuple #[v, .bool true]) ∧ w'.ownsRow w.heap.size 3 1 v L.length (intsV L)) ∨ (partsS cs = none ∧ e = .returned (.tuple #[.slice none 0 0, .bool false]))) ∧ Below w.heap.size w w'

set_option maxRecDepth 100000 in
set_option maxHeartbeats 4000000 in
theorem rparts_any (cs : List UInt8) (w : World) (hc : cs.length ≤ 1000000) :
    Calls Tryz.prog 74 #[.string ⟨cs.toArray⟩] w (PartsRes cs w) := by
  have hs1 : (⟨cs.toArray⟩ : ByteArray).size = cs.length := by simp [ByteArray.size]
  have HX := Lib.hid (fun (i : Nat) (ch : UInt8) (h : cs[i]? = some ch) (W : World) => show (Instr.index 9 (.string ⟨cs.toArray⟩) (.int .i64 (i : Int))).run Tryz.prog W = .ok (.int .u8 (ch.toNat : Int)) W by
    obtain ⟨hi, e⟩ := List.getElem?_eq_some_iff.1 h
    rw [run_index_string W _ _ _ _ Tryz.underlying9, dif_pos (by rw [hs1]; omega)]
    simp [ByteArray.getElem_eq_getElem_data, e])
  have HP := Lib.hid (show partsS cs = if 40 < cs.length then none else partsRun cs [] true from rfl)
  generalize (⟨cs.toArray⟩ : ByteArray) = s at *
  generalize hn : cs.length = n at *
  have HN := Lib.hid hn
  clear hn
  by_cases hbig : 40 < n
  · go_enter Tryz.func74, Tryz.ntmps74
    go_wp2_with fail
    go_ret2
    exact ⟨.inr ⟨by rw [HP.out, if_pos hbig], rfl⟩, Below.refl _ _⟩
  · obtain ⟨F, hF⟩ : ∃ F, partsS cs = F := ⟨_, rfl⟩
    have HF := Lib.hid hF
    have HF2 := Lib.hid (show partsRun cs [] true = F by rw [← hF, HP.out, if_neg hbig])
    clear hF
    go_enter Tryz.func74, Tryz.ntmps74
    go_wp2_with fail
    obtain ⟨i0, hi0, hz0, hz1, hz2⟩ := info_parts infoInt
    have HZ := Lib.hid (show i0.size = 1 ∧ i0.bytes = 8 ∧ Tryz.prog.info? 3 = some i0 ∧ i0.zero = some (.int .i64 0) from ⟨hz1, hz2, hi0, hz0⟩)
    clear hz0 hz1 hz2 hi0
    go_loopw [4, 5, 6] (fun v fr k wr => ∃ (i : Nat) (L : List Int) (b : Bool), k = .int .i64 (i : Int) ∧ fr = .bool b ∧ i ≤ n ∧ OwJ w 3 1 v L.length (intsV L) wr ∧ partsRun (cs.drop i) L b = F ∧ L.length ≤ i ∧ (b = false → ∃ pre x, L = pre ++ [x] ∧ 0 ≤ x ∧ x ≤ 999999)) (fun _ _ k _ => n - (intOf k).toNat)
    case atStart => exact ⟨0, [], true, rfl, rfl, by omega, OwJ.start _ _ _, HF2.out, by simp, fun h => by cases h⟩
    case round =>
      obtain ⟨i, L, b, rfl, rfl, hin, hI, hrun, hLi, hlast⟩ := hrel
      have HI := Lib.hid hI
      have HR := Lib.hid hrun
      clear hI hrun
      by_cases hlt : i < n
      · obtain ⟨ch, hch⟩ : ∃ ch, cs[i]? = some ch := ⟨cs[i]'(by have := HN.out; omega), List.getElem?_eq_getElem _⟩
        have hix := HX.out i ch hch
        have HD := Lib.hid (show cs.drop i = ch :: cs.drop (i + 1) by
          obtain ⟨h1, h2⟩ := List.getElem?_eq_some_iff.1 hch
          rw [List.drop_eq_getElem_cons h1, h2])
        have hcn : ch.toNat < 256 := UInt8.toNat_lt ch
        by_cases hd : 48 ≤ ch.toNat ∧ ch.toNat ≤ 57
        · have d1 : ¬ (ch.toNat : Int) < 48 := by omega
          have d2 : ¬ (57 : Int) < (ch.toNat : Int) := by omega
          have w1 : IntKind.u8.wrap ((ch.toNat : Int) - 48) = (ch.toNat : Int) - 48 := by rw [IntKind.wrap_u8]; omega
          have w2 : IntKind.i64.wrap ((ch.toNat : Int) - 48) = (ch.toNat : Int) - 48 := by rw [IntKind.wrap_i64]; omega
          cases b
          · obtain ⟨pre, x, rfl, x0, x1⟩ := hlast rfl
            have HRd := Lib.hid (show (if 999999 < 10 * x + ((ch.toNat : Int) - 48) then none else partsRun (cs.drop (i + 1)) (pre ++ [10 * x + ((ch.toNat : Int) - 48)]) false) = F from by
              have h := HR.out
              rw [HD.out, partsRun, if_pos hd] at h
              simpa using h)
            have HO := Lib.hid (show wr.ownsRow w.heap.size 3 1 u4 (pre.length + 1) (intsV (pre ++ [x])) from by have h := HI.out.own; rwa [List.length_append] at h)
            obtain ⟨g, cap, rfl, hg0, hg1, hcell, hfz⟩ := own_last HO.out
            clear hlast hch hd
            have w3 : IntKind.i64.wrap (10 * x) = 10 * x := by rw [IntKind.wrap_i64]; omega
            have w4 : IntKind.i64.wrap (10 * x + ((ch.toNat : Int) - 48)) = 10 * x + ((ch.toNat : Int) - 48) := by rw [IntKind.wrap_i64]; omega
            have HFin := Lib.hid (fun (Y : World) (hb : Below wr.heap.size wr Y) (y : Int) => show OwJ w 3 1 (.slice (some ⟨g, 0, none⟩) (pre.length + 1) cap) (pre ++ [y]).length (intsV (pre ++ [y])) (Y.setCell ⟨g, pre.length, none⟩ (.int .i64 y)) from by
              obtain ⟨s1, s2⟩ := own_set (y := y) (own_stepJ HO.out hb)
              have h2 := HI.out.step hb
              exact ⟨h2.bel.grown s2 h2.bel.size (fun r e => by cases e; exact hg0), by rw [List.length_append, List.length_singleton]; exact s1⟩)
            have hLi' : pre.length + 1 ≤ i := by rw [List.length_append, List.length_singleton] at hLi; exact hLi
            clear hLi
            generalize hp : pre.length = p at *
            generalize hcn' : ch.toNat = cn at *
            generalize hp1 : p + 1 = n1 at *
            have HP1 := Lib.hid hp1
            clear hp1
            have hn1 : 0 < n1 := by have := HP1.out; omega
            have hpn : p < n1 := by have := HP1.out; omega
            have hwr : IntKind.i64.wrap ((n1 : Int) - 1) = (p : Int) := by have := HP1.out; rw [IntKind.wrap_i64]; omega
            have ss := fun z => Wb.cell hcell z
            by_cases hb9 : 999999 < 10 * x + ((cn : Int) - 48)
            · have HE := Lib.hid (show F = none from by have h := HRd.out; rw [if_pos hb9] at h; exact h.symm)
              go_wp2_with fail
              refine wp_region_wb (by kernel_rfl) (by kernel_rfl) ?_; (repeat ((with_reducible refine wpQuiet_step ?_); intro K hK; go_simp; (try (refine ite_neg_of (by simp [undef]) ?_)); first | (with_reducible refine hK _ ?_; clear hK K) | (apply Exists.intro; (with_reducible refine ⟨fun _ => ?_, hK _ ?_⟩); (fail); clear hK K))); (with_reducible refine wpQuiet_nil ?_); rintro w1 ⟨⟨_, hb1⟩, rfl⟩; (try dsimp only)
              go_wp2_with fail
              go_ret2
              exact ⟨.inr ⟨by rw [HF.out, HE.out], rfl⟩, HI.out.bel.trans (hb1.mono HI.out.bel.size)⟩
            · have HE := Lib.hid (show partsRun (cs.drop (i + 1)) (pre ++ [10 * x + ((cn : Int) - 48)]) false = F from by have h := HRd.out; rwa [if_neg hb9] at h)
              go_wp2_with fail
              refine wp_region_wb (by kernel_rfl) (by kernel_rfl) ?_; (repeat ((with_reducible refine wpQuiet_step ?_); intro K hK; go_simp; (try (refine ite_neg_of (by simp [undef]) ?_)); first | (with_reducible refine hK _ ?_; clear hK K) | (apply Exists.intro; (with_reducible refine ⟨fun _ => ?_, hK _ ?_⟩); (fail); clear hK K))); (with_reducible refine wpQuiet_nil ?_); rintro w1 ⟨⟨_, hb1⟩, rfl⟩; (try dsimp only)
              have hfz1 : w1.frozen? ⟨g, p, none⟩ = false := (hb1.frozen (p := ⟨g, p, none⟩) hg1).trans hfz
              have hg2 : g < w1.heap.size := Nat.lt_of_lt_of_le hg1 hb1.size
              have hc1 : w1.cell? ⟨g, p, none⟩ = some (.int .i64 x) := (hb1.cell (p := ⟨g, p, none⟩) hg1).trans hcell
              go_wp2_with fail
              go_roundw
              case rel => exact ⟨i + 1, pre ++ [10 * x + ((cn : Int) - 48)], false, by go_num, rfl, by omega, HFin.out _ hb1 _, HE.out, by rw [List.length_append, List.length_singleton, hp]; have := HP1.out; omega, fun _ => ⟨pre, _, rfl, by omega, by omega⟩⟩
              case measure => simp [intOf]; omega
          · have HRd := Lib.hid (show partsRun (cs.drop (i + 1)) (L ++ [(ch.toNat : Int) - 48]) false = F from by
              have h := HR.out
              rwa [HD.out, partsRun, if_pos hd] at h)
            clear hlast hch
            have HO := Lib.hid ((HI.out.own).alloc (.cells #[.int .i64 0] 3))
            have HCn := Lib.hid (cell_one_new wr (.int .i64 0) 3)
            have HBs := Lib.hid (show w.heap.size ≤ (wr.alloc (.cells #[.int .i64 0] 3)).heap.size from by have := HI.out.bound; simp; omega)
            go_wp2_with (at_builtin; refine wpList_append_own _ rfl _ _ 80 rfl w.heap.size 3 i0 (.int .i64 0) 1 8 Tryz.underlying80 HZ.out.2.2.1 HZ.out.2.2.2 HZ.out.1 HZ.out.2.1 rfl (by decide) u4 L.length (intsV L) rfl HO.out ⟨wr.heap.size, 0, none⟩ 1 1 [.int .i64 0] rfl rfl HCn.out (by intro u hu; simp at hu; subst hu; rfl) (by unfold maxLen; omega) (by omega) HBs.out ?_; intro v4 w4 hown4 hg4 hnn4)
            have HO4 := Lib.hid (show w4.ownsRow w.heap.size 3 1 v4 (L.length + 1) (intsV (L ++ [0])) from by
              have e : intsV (L ++ [0]) = intsV L ++ [.int .i64 0] := by simp [intsV]
              rw [e]; exact hown4)
            have HI4 := Lib.hid (show OwJ w 3 1 v4 (L.length + 1) (intsV L ++ [.int .i64 0]) w4 from HI.out.grown (below_new _) hg4 hown4)
            clear hown4 hg4 hnn4 HO HCn HBs
            obtain ⟨g, cap, rfl, hg0, hg1, hcell, hfz⟩ := own_last HO4.out
            have HFin := Lib.hid (fun (Y : World) (hb : Below w4.heap.size w4 Y) (y : Int) => show OwJ w 3 1 (.slice (some ⟨g, 0, none⟩) (L.length + 1) cap) (L ++ [y]).length (intsV (L ++ [y])) (Y.setCell ⟨g, L.length, none⟩ (.int .i64 y)) from by
              obtain ⟨s1, s2⟩ := own_set (y := y) (own_stepJ HO4.out hb)
              have h2 := HI4.out.step hb
              exact ⟨h2.bel.grown s2 h2.bel.size (fun r e => by cases e; exact hg0), by rw [List.length_append, List.length_singleton]; exact s1⟩)
            clear hd
            generalize hp : L.length = p at *
            generalize hcn' : ch.toNat = cn at *
            generalize hp1 : p + 1 = n1 at *
            have HP1 := Lib.hid hp1
            clear hp1
            have hn1 : 0 < n1 := by have := HP1.out; omega
            have hpn : p < n1 := by have := HP1.out; omega
            have hwr : IntKind.i64.wrap ((n1 : Int) - 1) = (p : Int) := by have := HP1.out; rw [IntKind.wrap_i64]; omega
            have ss := fun z => Wb.cell hcell z
            have hb9 : ¬ 999999 < (cn : Int) - 48 := by omega
            refine wp_region_wb (by kernel_rfl) (by kernel_rfl) ?_; (repeat ((with_reducible refine wpQuiet_step ?_); intro K hK; go_simp; (try (refine ite_neg_of (by simp [undef]) ?_)); first | (with_reducible refine hK _ ?_; clear hK K) | (apply Exists.intro; (with_reducible refine ⟨fun _ => ?_, hK _ ?_⟩); (fail); clear hK K))); (with_reducible refine wpQuiet_nil ?_); rintro w1 ⟨⟨_, hb1⟩, rfl⟩; (try dsimp only)
            have hfz1 : w1.frozen? ⟨g, p, none⟩ = false := (hb1.frozen (p := ⟨g, p, none⟩) hg1).trans hfz
            have hg2 : g < w1.heap.size := Nat.lt_of_lt_of_le hg1 hb1.size
            have hc1 : w1.cell? ⟨g, p, none⟩ = some (.int .i64 0) := (hb1.cell (p := ⟨g, p, none⟩) hg1).trans hcell
            go_wp2_with fail
            go_roundw
            case rel => exact ⟨i + 1, L ++ [(cn : Int) - 48], false, by go_num, rfl, by omega, HFin.out _ hb1 _, HRd.out, by rw [List.length_append, List.length_singleton, hp]; omega, fun _ => ⟨L, _, rfl, by omega, by omega⟩⟩
            case measure => simp [intOf]; omega
        · have HRd := Lib.hid (show partsRun (cs.drop (i + 1)) L true = F from by
            have h := HR.out
            rw [HD.out] at h
            cases b <;> rwa [partsRun, if_neg hd] at h)
          clear hlast hch
          by_cases h48 : (ch.toNat : Int) < 48
          · go_wp2_with fail
            go_roundw
            case rel => exact ⟨i + 1, L, true, by go_num, rfl, by omega, HI.out, HRd.out, by omega, fun h => by cases h⟩
            case measure => simp [intOf]; omega
          · have h57 : (57 : Int) < (ch.toNat : Int) := by omega
            go_wp2_with fail
            go_roundw
            case rel => exact ⟨i + 1, L, true, by go_num, rfl, by omega, HI.out, HRd.out, by omega, fun h => by cases h⟩
            case measure => simp [intOf]; omega
      · have HE := Lib.hid (show F = some L by
          have h := HR.out
          rw [List.drop_eq_nil_of_le (by have := HN.out; omega)] at h
          cases b <;> exact h.symm)
        go_wp2_with fail
        go_ret2
        exact ⟨.inl ⟨L, _, by rw [HF.out, HE.out], rfl, HI.out.own⟩, HI.out.bel⟩
end Go.Proofs.YtabolonlkocopaaGreatDoor
