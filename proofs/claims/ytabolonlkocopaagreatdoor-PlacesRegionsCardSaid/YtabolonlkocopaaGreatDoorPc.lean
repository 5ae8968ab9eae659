
/- The pieces of a square: the iterator. -/
import Derived.Test.YtabolonlkocopaaGreatDoorMns
namespace Go.Proofs.YtabolonlkocopaaGreatDoor
open Go.RowKit Go.Plc Go.Shelf
attribute [local go_sem] Oper.semAt_some

def sideN (s : Sq) (L : Int) : Nat := 2 ^ (s.l - L).toNat
def pcS (s : Sq) (L : Int) (y x : Nat) : Sq := ⟨L, s.x * (sideN s L : Int) + (x : Int), s.y * (sideN s L : Int) + (y : Int)⟩
def pcRow (s : Sq) (L : Int) (y m : Nat) : List Sq := (List.range m).map (pcS s L y)
def piecesTo (s : Sq) (L : Int) (k : Nat) : List Sq := (List.range k).flatMap fun y => pcRow s L y (sideN s L)
def piecesS (s : Sq) (L : Int) : List Sq := piecesTo s L (sideN s L)

theorem pcRow_succ (s : Sq) (L : Int) (y m : Nat) : pcRow s L y (m + 1) = pcRow s L y m ++ [pcS s L y m] := by simp [pcRow, List.range_succ]
theorem piecesTo_succ (s : Sq) (L : Int) (k : Nat) : piecesTo s L (k + 1) = piecesTo s L k ++ pcRow s L k (sideN s L) := by simp [piecesTo, List.range_succ]
theorem pcRow_pre (s : Sq) (L : Int) (y : Nat) {m k : Nat} (h : m ≤ k) : pcRow s L y m <+: pcRow s L y k := by
  obtain ⟨d, rfl⟩ := Nat.exists_eq_add_of_le h
  induction d with
  | zero => exact List.prefix_refl _
  | succ d ih => rw [← Nat.add_assoc, pcRow_succ]; exact (ih (by omega)).trans (List.prefix_append _ _)
theorem piecesTo_pre (s : Sq) (L : Int) {m k : Nat} (h : m ≤ k) : piecesTo s L m <+: piecesTo s L k := by
  obtain ⟨d, rfl⟩ := Nat.exists_eq_add_of_le h
  induction d with
  | zero => exact List.prefix_refl _
  | succ d ih => rw [← Nat.add_assoc, piecesTo_succ]; exact (ih (by omega)).trans (List.prefix_append _ _)
theorem pieces_pre {s : Sq} {L : Int} {y x : Nat} (hy : y < sideN s L) (hx : x < sideN s L) : (piecesTo s L y ++ pcRow s L y x) ++ [pcS s L y x] <+: piecesS s L := by
  refine List.IsPrefix.trans ?_ (piecesTo_pre s L (show y + 1 ≤ sideN s L by omega))
  rw [piecesTo_succ, List.append_assoc, ← pcRow_succ]
  exact (List.prefix_append_right_inj _).2 (pcRow_pre s L y (by omega))
theorem side_split {s : Sq} {L : Int} (h : s.okB = true) (_h0 : 0 ≤ L) (h1 : L ≤ s.l) : sideOf L = sideOf s.l * (sideN s L : Int) := by
  have := (Sq.okB_iff s).1 h
  unfold sideOf sideN
  rw [pow_split L s.l 10 h1 (by omega)]
  simp
theorem sideN_bd {s : Sq} {L : Int} (h : s.okB = true) (h0 : 0 ≤ L) (_h1 : L ≤ s.l) : 1 ≤ sideN s L ∧ sideN s L ≤ 1024 := by
  have h2 := (Sq.okB_iff s).1 h
  refine ⟨Nat.pow_pos (by decide), ?_⟩
  have : sideN s L ≤ 2 ^ 10 := Nat.pow_le_pow_right (by decide) (by omega)
  simpa using this
theorem pc_ok {s : Sq} {L : Int} (h : s.okB = true) (h0 : 0 ≤ L) (h1 : L ≤ s.l) {y x : Nat} (hy : y < sideN s L) (hx : x < sideN s L) : (pcS s L y x).okB = true := by
  have hs := side_split h h0 h1
  obtain ⟨a1, a2, a3, a4, a5, a6⟩ := (Sq.okB_iff s).1 h
  have m1 : (s.x + 1) * (sideN s L : Int) ≤ sideOf s.l * (sideN s L : Int) := Int.mul_le_mul_of_nonneg_right (by omega) (by omega)
  have m2 : (s.y + 1) * (sideN s L : Int) ≤ sideOf s.l * (sideN s L : Int) := Int.mul_le_mul_of_nonneg_right (by omega) (by omega)
  have p1 : 0 ≤ s.x * (sideN s L : Int) := Int.mul_nonneg a3 (by omega)
  have p2 : 0 ≤ s.y * (sideN s L : Int) := Int.mul_nonneg a5 (by omega)
  rw [Int.add_mul] at m1 m2
  refine (Sq.okB_iff _).2 ⟨h0, by show L ≤ 10; omega, ?_, ?_, ?_, ?_⟩
  · show 0 ≤ s.x * (sideN s L : Int) + (x : Int); omega
  · show s.x * (sideN s L : Int) + (x : Int) < sideOf L; rw [hs]; omega
  · show 0 ≤ s.y * (sideN s L : Int) + (y : Int); omega
  · show s.y * (sideN s L : Int) + (y : Int) < sideOf L; rw [hs]; omega
theorem pc_bd {s : Sq} {L : Int} (h : s.okB = true) (h0 : 0 ≤ L) (h1 : L ≤ s.l) : 0 ≤ s.x * (sideN s L : Int) ∧ s.x * (sideN s L : Int) ≤ 1024 ∧ 0 ≤ s.y * (sideN s L : Int) ∧ s.y * (sideN s L : Int) ≤ 1024 := by
  have hs := side_split h h0 h1
  have hl := side_le L h0
  obtain ⟨a1, a2, a3, a4, a5, a6⟩ := (Sq.okB_iff s).1 h
  have m1 : s.x * (sideN s L : Int) ≤ sideOf s.l * (sideN s L : Int) := Int.mul_le_mul_of_nonneg_right (by omega) (by omega)
  have m2 : s.y * (sideN s L : Int) ≤ sideOf s.l * (sideN s L : Int) := Int.mul_le_mul_of_nonneg_right (by omega) (by omega)
  have p1 : 0 ≤ s.x * (sideN s L : Int) := Int.mul_nonneg a3 (by omega)
  have p2 : 0 ≤ s.y * (sideN s L : Int) := Int.mul_nonneg a5 (by omega)
  omega

set_option maxRecDepth 100000 in
set_option maxHeartbeats 4000000 in
theorem pieces_iter (B n : Nat) (hn1 : 1 ≤ n) (s : Sq) (L : Int) (bs bL : Nat) (h : s.okB = true) (h0 : 0 ≤ L) (h1 : L ≤ s.l) (I : List Sq → Option Nat → World → Prop)
    (hI : ∀ pre ow X, I pre ow X → X.heap[bs]? = some (.cells #[.int .i64 s.l, .int .i64 s.x, .int .i64 s.y] 31) ∧ X.heap[bL]? = some (.cells #[.int .i64 L] 3)) :
    IterG B Tryz.prog n 116 #[.pointer (some ⟨bs, 0, none⟩), .pointer (some ⟨bL, 0, none⟩)] (fun s : Sq => #[sqv s]) I (fun pre x => x.okB = true ∧ x.l = L ∧ pre ++ [x] <+: piecesS s L) (fun xs => xs = piecesS s L) (fun pre => pre <+: piecesS s L) := by
  intro l J Jx ow W hB hJ hJx hJI hY hS
  refine callsIn_of_wp Tryz.func116 rfl trivial ?_ rfl
  simp only [Tryz.ntmps116, List.size_toArray, List.length_cons, List.length_nil, Nat.reduceAdd, Nat.reduceSub, Array.replicate_succ, Array.replicate_zero, List.push_toArray, List.append_toArray, List.nil_append, List.cons_append]
  obtain ⟨b1, b2⟩ := sideN_bd h h0 h1
  obtain ⟨p1, p2, p3, p4⟩ := pc_bd h h0 h1
  have HOk := Lib.hid (fun (y x : Nat) (hy : y < sideN s L) (hx : x < sideN s L) => pc_ok h h0 h1 hy hx)
  have HPf := Lib.hid (fun (y x : Nat) (hy : y < sideN s L) (hx : x < sideN s L) => pieces_pre (s := s) (L := L) hy hx)
  have HTo := Lib.hid (fun k => piecesTo_succ s L k)
  have HRow := Lib.hid (fun y m => pcRow_succ s L y m)
  have HPc := Lib.hid (show ∀ y x : Nat, sqv (pcS s L y x) = .agg #[.int .i64 L, .int .i64 (s.x * (sideN s L : Int) + (x : Int)), .int .i64 (s.y * (sideN s L : Int) + (y : Int))] from fun _ _ => rfl)
  have HFull := Lib.hid (show ∀ side, side = sideN s L → piecesTo s L side = piecesS s L from fun _ e => by rw [e]; rfl)
  have H00 := Lib.hid (show piecesTo s L 0 = [] ∧ ∀ y, pcRow s L y 0 = [] from ⟨rfl, fun _ => rfl⟩)
  have hsd : (2 : Int) ^ (s.l - L).toNat = (sideN s L : Int) := by simp [sideN]
  have a2 := ((Sq.okB_iff s).1 h).2.1
  have HJ := Lib.hid hJ; have HJI := Lib.hid hJI; have HY := Lib.hid hY; have HI := Lib.hid hI; have H0 := Lib.hid hS
  obtain ⟨s0, s1, s2⟩ := sq_cells (hI _ _ _ (hJI _ _ _ hS)).1
  have sL : W.cell? ⟨bL, 0, none⟩ = some (.int .i64 L) := by simp [World.cell?, (hI _ _ _ (hJI _ _ _ hS)).2]
  clear hJ hJI hY hI hS hJx h
  generalize sideN s L = side at *
  generalize hpx : s.x * (side : Int) = px at *
  generalize hpy : s.y * (side : Int) = py at *
  gi_wp2_with fail
  have HF := Lib.hid (HFull.out side rfl)
  clear HFull
  gi_loopw [13] (fun k X => ∃ (y : Nat) (ow' : Option Nat), k = .int .i64 (y : Int) ∧ y ≤ side ∧ J (piecesTo s L y) ow' X) (fun k _ => side - (intOf k).toNat)
  case atStart => exact ⟨0, ow, rfl, by omega, by rw [H00.out.1]; exact H0.out⟩
  case round =>
    obtain ⟨y, ow1, rfl, hy1, hj⟩ := hrel
    have HJ1 := Lib.hid hj
    clear hj
    by_cases hlt : y < side
    · gi_wp2_with fail
      gi_loopw [17] (fun k X => ∃ (x : Nat) (ow2 : Option Nat), k = .int .i64 (x : Int) ∧ x ≤ side ∧ J (piecesTo s L y ++ pcRow s L y x) ow2 X) (fun k _ => side - (intOf k).toNat)
      case atStart => exact ⟨0, ow1, rfl, by omega, by rw [H00.out.2, List.append_nil]; exact HJ1.out⟩
      case round =>
        obtain ⟨x, ow2, rfl, hx1, hj2⟩ := hrel
        have HJ2 := Lib.hid hj2
        clear hj2
        by_cases hlt2 : x < side
        · have hHI := HI.out _ _ _ (HJI.out _ _ _ HJ2.out)
          obtain ⟨s0, s1, s2⟩ := sq_cells hHI.1
          have sL : wr.cell? ⟨bL, 0, none⟩ = some (.int .i64 L) := by simp [World.cell?, hHI.2]
          obtain ⟨fn, tmps, assign, body, hyd, hR⟩ := HY.out _ (pcS s L y x) ow2 _ HJ2.out ⟨HOk.out y x hlt hlt2, rfl, HPf.out y x hlt hlt2⟩
          have HR := Lib.hid hR
          rw [HPc.out] at hyd
          have hwx : IntKind.i64.wrap (px + (x : Int)) = px + (x : Int) := by rw [IntKind.wrap_i64]; omega
          have hwy : IntKind.i64.wrap (py + (y : Int)) = py + (y : Int) := by rw [IntKind.wrap_i64]; omega
          clear hHI hR
          gi_wp2_with fail
          refine HR.out.mono ?_
          rintro e W3 (⟨rfl, ow3, hj3, hgr, hka⟩ | ⟨rfl, hjx⟩)
          · have H3 := Lib.hid (show J (piecesTo s L y ++ pcRow s L y (x + 1)) ow3 W3 by rw [HRow.out, ← List.append_assoc]; exact hj3)
            clear hj3 hgr hka
            gi_wp2_with fail
            go_roundw
            case rel => exact ⟨x + 1, ow3, by go_num, by omega, H3.out⟩
            case measure => simp [intOf]; omega
          · have HX3 := Lib.hid hjx
            clear hjx
            gi_wp2_with fail
            refine bodyPost_ret (results_none rfl _ _ _) rfl ?_
            exact ⟨⟨_, rfl⟩, .inr ⟨_, HPf.out y x hlt hlt2, HX3.out⟩⟩
        · have ex : x = side := by omega
          have HJ4 := Lib.hid (show J (piecesTo s L (y + 1)) ow2 wr by rw [HTo.out, ← ex]; exact HJ2.out)
          gi_wp2_with fail
          go_roundw
          case rel => exact ⟨y + 1, ow2, by go_num, by omega, HJ4.out⟩
          case measure => simp [intOf]; omega
    · have ey : y = side := by omega
      have HJ4 := Lib.hid (show J (piecesTo s L side) ow1 wr by rw [← ey]; exact HJ1.out)
      gi_wp2_with fail
      refine bodyPost_end (results_none rfl _ _ _) rfl ?_
      exact ⟨⟨_, rfl⟩, .inl ⟨_, ow1, rfl, by rw [← HF.out]; exact HJ4.out⟩⟩
end Go.Proofs.YtabolonlkocopaaGreatDoor
