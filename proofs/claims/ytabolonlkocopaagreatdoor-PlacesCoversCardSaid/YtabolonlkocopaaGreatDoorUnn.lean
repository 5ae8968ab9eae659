
/- Union. -/
import Derived.Test.YtabolonlkocopaaGreatDoorUni
namespace Go.Proofs.YtabolonlkocopaaGreatDoor
open Go.RowKit Go.Plc Go.Shelf

def unionOut (a b : List Sq) : List Sq × Int := if regB a && regB b then (if 4096 < (normalS (a ++ b)).length then ([], 2) else (regionS (normalS (a ++ b)), 0)) else ([], 11)
set_option maxRecDepth 100000 in
set_option maxHeartbeats 8000000 in
theorem Union_any (u v : Value) (a b : List Sq) (w : World) (hu : SqSl w w.heap.size u a) (hv : SqSl w w.heap.size v b) (hna : a.length ≤ 1000000) (hnb : b.length ≤ 1000000) :
    Calls Tryz.prog 10 #[u, v] w (OutSq (unionOut a b) w) := by
  have HVa := Lib.hid (fun (w1 : World) (hb : Below w.heap.size w w1) => ValidRegion_any u a w1 ((hu.below hb).mono hb.size) hna)
  have HVb := Lib.hid (fun (w1 : World) (hb : Below w.heap.size w w1) => ValidRegion_any v b w1 ((hv.below hb).mono hb.size) hnb)
  have HO := Lib.hid (show unionOut a b = if regB a && regB b then (if 4096 < (normalS (a ++ b)).length then ([], 2) else (regionS (normalS (a ++ b)), 0)) else ([], 11) from rfl)
  have HSa := Lib.hid hu
  have HSb := Lib.hid hv
  obtain ⟨A, ca, rfl, _⟩ := hu
  obtain ⟨B, cb, rfl, _⟩ := hv
  cases ra : regB a
  · have HR := Lib.hid (show unionOut a b = ([], 11) by rw [HO.out, ra, Bool.false_and]; exact if_neg (by decide))
    rw [ra] at HVa
    clear ra HO
    go_enter Tryz.func10, Tryz.ntmps10
    go_wp2_with fail
    refine (HVa.out w (Below.refl _ _)).mono ?_
    rintro e w1 ⟨rfl, hb1⟩
    have HB1 := Lib.hid hb1
    clear hb1
    go_wp2_with fail
    go_ret2
    exact OutSq.nil HR.out HB1.out
  · have HGa := Lib.hid (reg_ok ra)
    rw [ra] at HVa
    cases rb : regB b
    · have HR := Lib.hid (show unionOut a b = ([], 11) by rw [HO.out, rb, Bool.and_false]; exact if_neg (by decide))
      rw [rb] at HVb
      clear ra rb HO
      go_enter Tryz.func10, Tryz.ntmps10
      go_wp2_with fail
      refine (HVa.out w (Below.refl _ _)).mono ?_
      rintro e w1 ⟨rfl, hb1⟩
      have HB1 := Lib.hid hb1
      clear hb1
      go_wp2_with fail
      refine (HVb.out w1 HB1.out).mono ?_
      rintro e w2 ⟨rfl, hb2⟩
      have HB2 := Lib.hid (HB1.out.trans (hb2.mono HB1.out.size))
      clear hb2
      go_wp2_with fail
      go_ret2
      exact OutSq.nil HR.out HB2.out
    · have HGb := Lib.hid (reg_ok rb)
      rw [rb] at HVb
      have HO2 := Lib.hid (show unionOut a b = if 4096 < (normalS (a ++ b)).length then ([], 2) else (regionS (normalS (a ++ b)), 0) by rw [HO.out, ra, rb]; exact if_pos rfl)
      have HLn := Lib.hid (show (normalS (a ++ b)).length ≤ 1000000 from by
        have h := normalS_len (a ++ b)
        have := HGa.out.1
        have := HGb.out.1
        rw [List.length_append] at h
        omega)
      clear ra rb HO
      go_enter Tryz.func10, Tryz.ntmps10
      go_wp2_with fail
      refine (HVa.out w (Below.refl _ _)).mono ?_
      rintro e w1 ⟨rfl, hb1⟩
      have HB1 := Lib.hid hb1
      clear hb1
      go_wp2_with fail
      refine (HVb.out w1 HB1.out).mono ?_
      rintro e w2 ⟨rfl, hb2⟩
      have HB2 := Lib.hid (HB1.out.trans (hb2.mono HB1.out.size))
      clear hb2
      have HB3 := Lib.hid (HB2.out.trans ((below_new (.cells #[.slice A a.length ca, .slice B b.length cb] 22)).mono HB2.out.size))
      go_wp2_with fail
      refine (Concat_any _ _ a b w2.heap.size _ (World.alloc_heap_new w2 _) ((HSa.out.below HB3.out).mono HB3.out.size) ((HSb.out.below HB3.out).mono HB3.out.size) hna hnb).mono ?_
      rintro e w4 ⟨x, rfl, hx, hb4⟩
      have HX := Lib.hid (And.intro hx (HB3.out.trans (hb4.mono HB3.out.size)))
      clear hx hb4
      go_wp2_with fail
      refine (normalOf_any x (a ++ b) w4 HX.out.1 (fun s hs => (List.mem_append.1 hs).elim (HGa.out.2 s) (HGb.out.2 s)) (by rw [List.length_append]; have := HGa.out.1; have := HGb.out.1; omega)).mono ?_
      rintro e w5 ⟨bm, rfl, _, hcov, hb5⟩
      have HC := Lib.hid (region_any bm _ w5 hcov HLn.out)
      have HB5 := Lib.hid (HX.out.2.trans (hb5.mono HX.out.2.size))
      clear hcov hb5
      unfold covA at HC ⊢
      go_wp2_with fail
      refine HC.out.mono ?_
      rintro e w6 ⟨hb6, (⟨hl, rfl⟩ | ⟨hl, A', c', rfl, hA'⟩)⟩
      · have HB6 := Lib.hid (HB5.out.trans (hb6.mono HB5.out.size))
        have HR := Lib.hid (show unionOut a b = ([], 2) by rw [HO2.out, if_pos hl])
        go_wp2_with fail
        go_ret2
        exact OutSq.nil HR.out HB6.out
      · have HB6 := Lib.hid (HB5.out.trans (hb6.mono HB5.out.size))
        have HR := Lib.hid (show unionOut a b = (regionS (normalS (a ++ b)), 0) by rw [HO2.out, if_neg (by omega)])
        go_wp2_with fail
        go_ret2
        exact OutSq.mk HR.out hA' HB6.out
end Go.Proofs.YtabolonlkocopaaGreatDoor
