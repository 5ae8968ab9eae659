
/- numbers. -/
import Derived.Test.YtabolonlkocopaaGreatDoorTxt
import Derived.Laws.OwnMore
import Derived.WalkMore
import Derived.Deep.LoopGhost
import Derived.Laws.AppendOwn
namespace Go.Proofs.YtabolonlkocopaaGreatDoor
open Go.RowKit Go.Plc

def numsRun (marks : List UInt8) : List UInt8 → List Int → Int → List Int
  | [], pre, x => pre ++ [x]
  | ch :: r, pre, x =>
    if 48 ≤ ch.toNat ∧ ch.toNat ≤ 57 then (if 9999 < 10 * x + ((ch.toNat : Int) - 48) then pre ++ [10 * x + ((ch.toNat : Int) - 48)] else numsRun marks r pre (10 * x + ((ch.toNat : Int) - 48)))
    else if marks[pre.length]? = some ch then numsRun marks r (pre ++ [x]) 0 else pre ++ [x]
def numsS (marks cs : List UInt8) : List Int := numsRun marks cs [] 0
example : numsS [58, 44] [51, 58, 48, 53, 44, 50] = [3, 5, 2] := by decide +kernel
def intsV (L : List Int) : List Value := L.map (.int .i64)

theorem infoInt : (Tryz.prog.info? 3).map (fun i => (i.zero, i.size, i.bytes)) = some (some (.int .i64 0), 1, 8) := by kernel_rfl

structure NumI (w : World) (v : Value) (pre : List Int) (x : Int) (X : World) : Prop where
  own : X.ownsRow w.heap.size 3 1 v (pre.length + 1) (intsV (pre ++ [x]))
  x0 : 0 ≤ x
  x1 : x ≤ 9999
  bel : Below w.heap.size w X
theorem NumI.form {w X : World} {v : Value} {pre : List Int} {x : Int} (h : NumI w v pre x X) : ∃ g cap, v = .slice (some ⟨g, 0, none⟩) (pre.length + 1) cap ∧ w.heap.size ≤ g ∧ g < X.heap.size ∧ X.cell? ⟨g, pre.length, none⟩ = some (.int .i64 x) ∧ X.frozen? ⟨g, pre.length, none⟩ = false := by
  obtain ⟨hl, ⟨_, h0⟩ | ⟨g, cap, cur, rfl, hb, hg, _⟩⟩ := h.own
  · omega
  · refine ⟨g, cap, rfl, hb, (Array.getElem?_eq_some_iff.1 hg).1, ?_, h.own.frozenAt _⟩
    rw [h.own.cellAt _ (by omega)]
    simp [intsV]
theorem NumI.set {w X : World} {g cap : Nat} {pre : List Int} {x y : Int} (h : NumI w (.slice (some ⟨g, 0, none⟩) (pre.length + 1) cap) pre x X) (hg : w.heap.size ≤ g) : (X.setCell ⟨g, pre.length, none⟩ (.int .i64 y)).ownsRow w.heap.size 3 1 (.slice (some ⟨g, 0, none⟩) (pre.length + 1) cap) (pre.length + 1) (intsV (pre ++ [y])) ∧ Below w.heap.size w (X.setCell ⟨g, pre.length, none⟩ (.int .i64 y)) := by
  obtain ⟨h1, h2⟩ := h.own.stored pre.length (.int .i64 y)
  refine ⟨?_, h.bel.grown h2 h.bel.size (fun r e => by cases e; exact hg)⟩
  have e : (intsV (pre ++ [x])).set pre.length (.int .i64 y) = intsV (pre ++ [y]) := by simp [intsV]
  rwa [e] at h1

set_option maxRecDepth 100000 in
set_option maxHeartbeats 4000000 in
theorem numbers_any (cs marks : List UInt8) (w : World) (hc : cs.length ≤ 1000000) (hmk : marks.length ≤ 100) :
    Calls Tryz.prog 73 #[.string ⟨cs.toArray⟩, .string ⟨marks.toArray⟩] w fun e w' => ∃ v, e = .returned v ∧ w'.ownsRow w.heap.size 3 1 v (numsS marks cs).length (intsV (numsS marks cs)) ∧ Below w.heap.size w w' := by
  have hs1 : (⟨cs.toArray⟩ : ByteArray).size = cs.length := by simp [ByteArray.size]
  have hs2 : (⟨marks.toArray⟩ : ByteArray).size = marks.length := by simp [ByteArray.size]
  have HX := Lib.hid (fun (i : Nat) (ch : UInt8) (h : cs[i]? = some ch) (W : World) => show (Instr.index 9 (.string ⟨cs.toArray⟩) (.int .i64 (i : Int))).run Tryz.prog W = .ok (.int .u8 (ch.toNat : Int)) W by
    obtain ⟨hi, e⟩ := List.getElem?_eq_some_iff.1 h
    rw [run_index_string W _ _ _ _ Tryz.underlying9, dif_pos (by rw [hs1]; omega)]
    simp [ByteArray.getElem_eq_getElem_data, e])
  have HXm := Lib.hid (fun (i : Nat) (ch : UInt8) (h : marks[i]? = some ch) (W : World) => show (Instr.index 9 (.string ⟨marks.toArray⟩) (.int .i64 (i : Int))).run Tryz.prog W = .ok (.int .u8 (ch.toNat : Int)) W by
    obtain ⟨hi, e⟩ := List.getElem?_eq_some_iff.1 h
    rw [run_index_string W _ _ _ _ Tryz.underlying9, dif_pos (by rw [hs2]; omega)]
    simp [ByteArray.getElem_eq_getElem_data, e])
  generalize hF : numsS marks cs = F
  have HF := Lib.hid hF
  clear hF
  generalize (⟨cs.toArray⟩ : ByteArray) = s at *
  generalize (⟨marks.toArray⟩ : ByteArray) = mk at *
  go_enter Tryz.func73, Tryz.ntmps73
  go_wp2_with fail
  go_step3
  go_wp2_with fail
  go_step3
  go_wp2_with fail
  have H0 := Lib.hid (show NumI w (.slice (some ⟨w.heap.size, 0, none⟩) 1 1) [] 0 (w.alloc (.cells #[.int .i64 0] 3)) from
    ⟨World.ownsRow_lit w #[.int .i64 0] 1 (Nat.le_refl _) (by decide) rfl, by omega, by omega, below_new _⟩)
  generalize hn : cs.length = n at *
  have HN := Lib.hid hn
  clear hn
  go_loopw [5, 12] (fun v k wr => ∃ (i : Nat) (pre : List Int) (x : Int), k = .int .i64 (i : Int) ∧ i ≤ n ∧ NumI w v pre x wr ∧ numsRun marks (cs.drop i) pre x = F ∧ pre.length ≤ marks.length) (fun _ k _ => n - (intOf k).toNat)
  case atStart => exact ⟨0, [], 0, rfl, by omega, H0.out, HF.out, by simp⟩
  case round =>
    obtain ⟨i, pre, x, rfl, hin, hI, hrun, hpl⟩ := hrel
    have HI := Lib.hid hI
    have HR := Lib.hid hrun
    clear hI hrun
    by_cases hlt : i < n
    · obtain ⟨ch, hch⟩ : ∃ ch, cs[i]? = some ch := ⟨cs[i]'(by have := HN.out; omega), List.getElem?_eq_getElem _⟩
      have hix := HX.out i ch hch
      have HD := Lib.hid (show cs.drop i = ch :: cs.drop (i + 1) by
        obtain ⟨h1, h2⟩ := List.getElem?_eq_some_iff.1 hch
        rw [List.drop_eq_getElem_cons h1, h2])
      obtain ⟨g, cap, rfl, hg0, hg1, hcell, hfz⟩ := HI.out.form
      obtain ⟨x0, x1⟩ := And.intro HI.out.x0 HI.out.x1
      have hcn : ch.toNat < 256 := UInt8.toNat_lt ch
      have HRd := Lib.hid (show (if 48 ≤ ch.toNat ∧ ch.toNat ≤ 57 then (if 9999 < 10 * x + ((ch.toNat : Int) - 48) then pre ++ [10 * x + ((ch.toNat : Int) - 48)] else numsRun marks (cs.drop (i + 1)) pre (10 * x + ((ch.toNat : Int) - 48)))
          else if marks[pre.length]? = some ch then numsRun marks (cs.drop (i + 1)) (pre ++ [x]) 0 else pre ++ [x]) = F from by have h := HR.out; rw [HD.out] at h; exact h)
      have HS := Lib.hid (fun y => HI.out.set hg0 (y := y))
      have HEq := Lib.hid (show ∀ mc : UInt8, (ch.toNat = mc.toNat ↔ mc = ch) from fun mc => ⟨fun h => (UInt8.toNat_inj.1 h).symm, fun h => by rw [h]⟩)
      clear hch
      generalize hcn' : ch.toNat = cn at *
      have HCn := Lib.hid hcn'
      clear hcn'
      generalize hp : pre.length = p at *
      have HP := Lib.hid hp
      clear hp
      generalize hp1 : p + 1 = n1 at *
      have HP1 := Lib.hid hp1
      clear hp1
      have hn1 : 0 < n1 := by have := HP1.out; omega
      have hpn : p < n1 := by have := HP1.out; omega
      have hwr : IntKind.i64.wrap ((n1 : Int) - 1) = (p : Int) := by have := HP1.out; rw [IntKind.wrap_i64]; omega
      by_cases hd : 48 ≤ cn ∧ cn ≤ 57
      · obtain ⟨d1, d2⟩ := hd
        have w1 : IntKind.u8.wrap ((cn : Int) - 48) = (cn : Int) - 48 := by rw [IntKind.wrap_u8]; omega
        have w2 : IntKind.i64.wrap ((cn : Int) - 48) = (cn : Int) - 48 := by rw [IntKind.wrap_i64]; omega
        have w3 : IntKind.i64.wrap (10 * x) = 10 * x := by rw [IntKind.wrap_i64]; omega
        have w4 : IntKind.i64.wrap (10 * x + ((cn : Int) - 48)) = 10 * x + ((cn : Int) - 48) := by rw [IntKind.wrap_i64]; omega
        have e1 : (48 : Int) ≤ (cn : Int) := by omega
        have e2 : (cn : Int) ≤ 57 := by omega
        by_cases hbig : 9999 < 10 * x + ((cn : Int) - 48)
        · have HE := Lib.hid (show pre ++ [10 * x + ((cn : Int) - 48)] = F by have h := HRd.out; rwa [if_pos ⟨d1, d2⟩, if_pos hbig] at h)
          go_wp2_with fail
          rw [Exit.noGoto_ret]
          go_ret
          exact ⟨_, rfl, by rw [← HE.out, List.length_append, List.length_singleton, HP.out, HP1.out]; exact (HS.out _).1, (HS.out _).2⟩
        · have HE := Lib.hid (show numsRun marks (cs.drop (i + 1)) pre (10 * x + ((cn : Int) - 48)) = F by have h := HRd.out; rwa [if_pos ⟨d1, d2⟩, if_neg hbig] at h)
          go_wp2_with fail
          exact ⟨⟨i + 1, pre, 10 * x + ((cn : Int) - 48), by go_num, by omega, ⟨by rw [HP.out, HP1.out]; exact (HS.out _).1, by omega, by omega, (HS.out _).2⟩, HE.out, by have := HP.out; omega⟩, by simp [intOf]; omega⟩
      · have hend := Lib.hid (show (marks[p]? = some ch → False) → pre ++ [x] = F from fun hne => by have h := HRd.out; rwa [if_neg hd, if_neg hne] at h)
        have hd1 : decide ((48 : Int) ≤ (cn : Int)) = false ∨ (decide ((48 : Int) ≤ (cn : Int)) = true ∧ decide ((cn : Int) ≤ 57) = false) := by
          simp; omega
        by_cases hpm : p < marks.length
        · obtain ⟨mc, hmc⟩ : ∃ mc, marks[p]? = some mc := ⟨marks[p], List.getElem?_eq_getElem hpm⟩
          have hmx := HXm.out p mc hmc
          have HMc := Lib.hid hmc
          have HEm := Lib.hid (HEq.out mc)
          clear hmc
          generalize mc.toNat = mn at *
          by_cases heq : cn = mn
          · have HE := Lib.hid (show numsRun marks (cs.drop (i + 1)) (pre ++ [x]) 0 = F by
              have h := HRd.out
              rwa [if_neg hd, if_pos (by rw [HMc.out, HEm.out.1 heq])] at h)
            clear hd
            subst heq
            obtain ⟨i0, hi0, hz0, hz1, hz2⟩ := info_parts infoInt
            have HO := Lib.hid (show (wr.alloc (.cells #[.int .i64 0] 3)).ownsRow w.heap.size 3 1 (.slice (some ⟨g, 0, none⟩) n1 cap) n1 (intsV (pre ++ [x])) from by
              have h := (HI.out.own).alloc (.cells #[.int .i64 0] 3); rwa [HP.out, HP1.out] at h)
            have HBd := Lib.hid (show n1 + 1 ≤ maxLen ∧ (n1 + 1) * 8 ≤ 140737488355328 ∧ w.heap.size ≤ (wr.alloc (.cells #[.int .i64 0] 3)).heap.size from ⟨by have := HP1.out; unfold maxLen; omega, by have := HP1.out; omega, by have := HI.out.bel.size; simp; omega⟩)
            have HCn1 := Lib.hid (cell_one_new wr (.int .i64 0) 3)
            have H1 := Lib.hid (show i0.size = 1 ∧ i0.bytes = 8 ∧ Tryz.prog.info? 3 = some i0 ∧ i0.zero = some (.int .i64 0) from ⟨hz1, hz2, hi0, hz0⟩)
            clear hz0 hz1 hz2 hi0
            rcases hd1 with e1 | ⟨e1, e2⟩
            all_goals
              go_wp2_with (at_builtin; refine wpList_append_own _ rfl _ _ 80 rfl w.heap.size 3 i0 (.int .i64 0) 1 8 Tryz.underlying80 H1.out.2.2.1 H1.out.2.2.2 H1.out.1 H1.out.2.1 rfl (by decide) (.slice (some ⟨g, 0, none⟩) n1 cap) n1 (intsV (pre ++ [x])) rfl HO.out ⟨wr.heap.size, 0, none⟩ 1 1 [.int .i64 0] rfl rfl HCn1.out (by intro u hu; simp at hu; subst hu; rfl) HBd.out.1 HBd.out.2.1 HBd.out.2.2 ?_; intro v4 w4 hown4 hg4 hnn4)
              have HI4 := Lib.hid (show NumI w v4 (pre ++ [x]) 0 w4 from ⟨by
                rw [List.length_append, List.length_singleton, HP.out, HP1.out]
                have e : intsV (pre ++ [x] ++ [0]) = intsV (pre ++ [x]) ++ [.int .i64 0] := by simp [intsV]
                rw [e]; exact hown4, by omega, by omega,
                (HI.out.bel.trans ((below_new _).mono HI.out.bel.size)).grown hg4 (by have := HI.out.bel.size; simp; omega) (fun r e => by simp [Value.ownBlock] at e; omega)⟩)
              clear hown4 hg4 hnn4
              exact ⟨⟨i + 1, pre ++ [x], 0, by go_num, by omega, HI4.out, HE.out, by rw [List.length_append, List.length_singleton, HP.out]; omega⟩, by simp [intOf]; omega⟩
          · have HE := Lib.hid (hend.out (fun h => by rw [HMc.out] at h; injection h with h; exact heq (HEm.out.2 h)))
            have hne : ((cn : Int) == (mn : Int)) = false := by simp; omega
            clear hd
            rcases hd1 with e1 | ⟨e1, e2⟩
            all_goals
              go_wp2_with fail
              rw [Exit.noGoto_ret]
              go_ret
              exact ⟨_, rfl, by rw [← HE.out, List.length_append, List.length_singleton]; exact HP.out ▸ HP1.out ▸ HI.out.own, HI.out.bel⟩
        · have HE := Lib.hid (hend.out (fun h => by rw [List.getElem?_eq_none (by omega)] at h; cases h))
          clear hd
          rcases hd1 with e1 | ⟨e1, e2⟩
          all_goals
            go_wp2_with fail
            rw [Exit.noGoto_ret]
            go_ret
            exact ⟨_, rfl, by rw [← HE.out, List.length_append, List.length_singleton]; exact HP.out ▸ HP1.out ▸ HI.out.own, HI.out.bel⟩
    · have HE := Lib.hid (show pre ++ [x] = F by
        have h := HR.out
        rw [List.drop_eq_nil_of_le (by have := HN.out; omega)] at h
        exact h)
      obtain ⟨g, cap, rfl, hg0, hg1, hcell, hfz⟩ := HI.out.form
      go_wp2_with fail
      rw [Exit.noGoto_ret]
      go_ret
      exact ⟨_, rfl, by rw [← HE.out, List.length_append, List.length_singleton]; exact HI.out.own, HI.out.bel⟩
end Go.Proofs.YtabolonlkocopaaGreatDoor
