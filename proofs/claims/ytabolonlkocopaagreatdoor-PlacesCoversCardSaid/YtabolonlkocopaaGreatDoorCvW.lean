/- PlacesCovers: the walk. -/
import Derived.Test.YtabolonlkocopaaGreatDoorTrec
import Derived.Test.YtabolonlkocopaaGreatDoorAwk
import Derived.Test.YtabolonlkocopaaGreatDoorAlgW
import Derived.Test.YtabolonlkocopaaGreatDoorCoa
namespace Go.Proofs.YtabolonlkocopaaGreatDoor
open Go.RowKit Go.Plc

theorem Area_at (v : Value) (L : List Sq) (m er : Int) (w : World) (hv : SqSl w w.heap.size v L) (hn : L.length ≤ 1000000) (h : areaOut L = (m, er)) :
    Calls Tryz.prog 19 #[v] w fun e w' => e = .returned (.tuple #[.int .i64 m, .int .i64 er]) ∧ Below w.heap.size w w' := by
  have hU := Area_any v L w hv hn
  rw [h] at hU
  exact hU
theorem Has_at (v : Value) (a : List Sq) (s : Sq) (b : Bool) (er : Int) (w : World) (hv : SqSl w w.heap.size v a) (hn : a.length ≤ 1000000) (h : askOut a s (hasS a s) = (b, er)) :
    Calls Tryz.prog 21 #[v, .agg #[.int .i64 s.l, .int .i64 s.x, .int .i64 s.y]] w fun e w' => e = .returned (.tuple #[.bool b, .int .i64 er]) ∧ Below w.heap.size w w' := by
  have hU := Has_any v a s w hv hn
  rw [h] at hU
  exact hU
theorem Meets_at (v : Value) (a : List Sq) (s : Sq) (b : Bool) (er : Int) (w : World) (hv : SqSl w w.heap.size v a) (hn : a.length ≤ 1000000) (h : askOut a s (meetsS a s) = (b, er)) :
    Calls Tryz.prog 23 #[v, .agg #[.int .i64 s.l, .int .i64 s.x, .int .i64 s.y]] w fun e w' => e = .returned (.tuple #[.bool b, .int .i64 er]) ∧ Below w.heap.size w w' := by
  have hU := Meets_any v a s w hv hn
  rw [h] at hU
  exact hU
structure CovD (l : List Sq) (s : Sq) (L : Int) (m e1 : Int) (h : Bool) (e2 : Int) (t : Bool) (e3 : Int) (R : List Sq) (e4 : Int) : Prop where
  a : areaOut l = (m, e1)
  h : askOut l s (hasS l s) = (h, e2)
  t : askOut l s (meetsS l s) = (t, e3)
  c1 : coarseOut l L = (R, e4)
  c2 : CoD l R L e4
  len : R.length ≤ 4096
theorem cov_data (l : List Sq) (s : Sq) (L : Int) : ∃ m e1 h e2 t e3 R e4, CovD l s L m e1 h e2 t e3 R e4 := by
  obtain ⟨R, e4, c1, c2, c3⟩ := co_data l L
  exact ⟨_, _, _, _, _, _, R, e4, rfl, rfl, rfl, c1, c2, c3⟩
theorem kb_ls {w X : World} {x : Value} {a : List Sq} {s : Sq} {W0 : World} (h0 : W0 = w.alloc (.cells #[.int .i64 s.l, .int .i64 s.x, .int .i64 s.y] 31)) (h : Below W0.heap.size W0 X) (hx : SqSl w w.heap.size x a) : KB w [(w.heap.size, .cells #[.int .i64 s.l, .int .i64 s.x, .int .i64 s.y] 31)] [(x, a)] X := by
  subst h0
  refine KB.slice (KB.step (KB.new (⟨Below.refl _ _, fun _ hp => absurd hp (List.not_mem_nil), fun _ hq => absurd hq (List.not_mem_nil)⟩ : KB w [] [] w) _) h) ?_
  have hb := (below_new (w := w) (.cells #[.int .i64 s.l, .int .i64 s.x, .int .i64 s.y] 31)).trans (h.mono (by simp))
  exact (hx.below hb).mono hb.size
set_option maxRecDepth 100000 in
set_option maxHeartbeats 16000000 in
theorem PlacesCovers_any (va : Value) (a : List Sq) (s : Sq) (L : Int) (w : World) (hM : MonthDays w) (hT : TabW w) (ha : SqSl w w.heap.size va a) :
    Calls Tryz.prog 4 #[va, .agg #[.int .i64 s.l, .int .i64 s.x, .int .i64 s.y], .int .i64 L] w fun e w' => e = .returned (.bool true) ∧ Below w.heap.size w w' := by
  have HS := Lib.hid ha
  have hb0 := below_new (w := w) (.cells #[.int .i64 s.l, .int .i64 s.x, .int .i64 s.y] 31)
  have HAw := Lib.hid (awake_any _ (hM.below hb0) (hT.below hb0))
  obtain ⟨Aa, ca, rfl⟩ := sl_formJ ha
  have HFa := Lib.hid (fun w => few_any Aa a ca w)
  obtain ⟨m, e1, h, e2, t, e3, R, e4, hD⟩ := cov_data a s L
  have HD := Lib.hid hD
  have HLn := Lib.hid (few_len (L := a))
  clear hM hT ha hb0 hD
  generalize hfa : fewB a = fa at *
  go_enter Tryz.func4, Tryz.ntmps4
  go_wp2_with fail
  refine HAw.out.mono ?_
  rintro e w1 ⟨rfl, hb1⟩
  have H1 := Lib.hid hb1
  clear hb1 HAw
  go_wp2_with fail
  refine (HFa.out w1).mono ?_
  rintro e w2 ⟨rfl, hb1⟩
  have H2 := Lib.hid (H1.out.trans (hb1.mono H1.out.size))
  clear hb1 H1
  have K2 := Lib.hid (kb_ls (s := s) rfl H2.out HS.out)
  have HFF := Lib.hid hfa
  clear hfa H2 HS HFa
  cases fa
  · go_wp2_with fail
    go_ret
    exact ⟨rfl, K2.out.bel⟩
  · have HL := Lib.hid (HLn.out (by first | trivial | rfl))
    clear HLn
    go_wp2_with fail
    refine (Area_at _ a m e1 _ (K2.out.sl (.slice Aa a.length ca, a) List.mem_cons_self) (by have := HL.out; omega) HD.out.a).mono ?_
    rintro e w3 ⟨rfl, hb⟩
    have K3 := Lib.hid (K2.out.step hb)
    clear hb K2
    go_wp2_with fail
    refine (rArea_any _ a m e1 _ (K3.out.sl (.slice Aa a.length ca, a) List.mem_cons_self) (by have := HL.out; omega) HD.out.a).mono ?_
    rintro e w4 ⟨rfl, hb⟩
    have K4 := Lib.hid (K3.out.step hb)
    clear hb K3
    obtain ⟨a0, a1, a2⟩ := sq_cells (s := s) (K4.out.mem (w.heap.size, _) List.mem_cons_self)
    go_wp2_with fail
    refine (Has_at _ a s h e2 _ (K4.out.sl (.slice Aa a.length ca, a) List.mem_cons_self) (by have := HL.out; omega) HD.out.h).mono ?_
    rintro e w5 ⟨rfl, hb⟩
    have K5 := Lib.hid (K4.out.step hb)
    clear hb K4 a0 a1 a2
    obtain ⟨a0, a1, a2⟩ := sq_cells (s := s) (K5.out.mem (w.heap.size, _) List.mem_cons_self)
    go_wp2_with fail
    refine (rHas_any _ a s h e2 _ (K5.out.sl (.slice Aa a.length ca, a) List.mem_cons_self) (by have := HL.out; omega) HD.out.h).mono ?_
    rintro e w6 ⟨rfl, hb⟩
    have K6 := Lib.hid (K5.out.step hb)
    clear hb K5 a0 a1 a2
    obtain ⟨a0, a1, a2⟩ := sq_cells (s := s) (K6.out.mem (w.heap.size, _) List.mem_cons_self)
    go_wp2_with fail
    refine (Meets_at _ a s t e3 _ (K6.out.sl (.slice Aa a.length ca, a) List.mem_cons_self) (by have := HL.out; omega) HD.out.t).mono ?_
    rintro e w7 ⟨rfl, hb⟩
    have K7 := Lib.hid (K6.out.step hb)
    clear hb K6 a0 a1 a2
    obtain ⟨a0, a1, a2⟩ := sq_cells (s := s) (K7.out.mem (w.heap.size, _) List.mem_cons_self)
    go_wp2_with fail
    refine (rMeets_any _ a s t e3 _ (K7.out.sl (.slice Aa a.length ca, a) List.mem_cons_self) (by have := HL.out; omega) HD.out.t).mono ?_
    rintro e w8 ⟨rfl, hb⟩
    have K8 := Lib.hid (K7.out.step hb)
    clear hb K7 a0 a1 a2
    go_wp2_with fail
    refine ((Coarse_any _ a L _ (K8.out.sl (.slice Aa a.length ca, a) List.mem_cons_self) (by have := HL.out; omega)).mono fun _ _ hO => hO.is HD.out.c1).mono ?_
    rintro e w9 ⟨⟨u1, rfl, hs⟩, hb⟩
    obtain ⟨Au1, cu1, rfl⟩ := sl_formJ hs
    have K9 := Lib.hid ((K8.out.step hb).slice hs)
    clear hs hb K8
    go_wp2_with fail
    refine (rCoarse_any _ a R L e4 _ (K9.out.sl (.slice Aa a.length ca, a) (List.mem_cons_of_mem _ List.mem_cons_self)) (by have := HL.out; omega) HD.out.c2).mono ?_
    rintro e w10 ⟨⟨u2, rfl, hs⟩, hb⟩
    obtain ⟨Au2, cu2, rfl⟩ := sl_formJ hs
    have K10 := Lib.hid ((K9.out.step hb).slice hs)
    clear hs hb K9
    go_wp2_with fail
    refine (Same_is _ _ R _ (K10.out.sl (.slice Au1 R.length cu1, R) (List.mem_cons_of_mem _ List.mem_cons_self)) (K10.out.sl (.slice Au2 R.length cu2, R) List.mem_cons_self) HD.out.len).mono ?_
    rintro e w11 ⟨rfl, hb⟩
    have K11 := Lib.hid (K10.out.step hb)
    clear hb K10
    go_wp2_with fail
    go_ret
    exact ⟨rfl, K11.out.bel⟩
end Go.Proofs.YtabolonlkocopaaGreatDoor
