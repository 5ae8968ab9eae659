
/- Normal. -/
import Derived.Test.YtabolonlkocopaaGreatDoorReg2
namespace Go.Proofs.YtabolonlkocopaaGreatDoor
open Go.RowKit Go.Plc Go.Shelf

def normalOut (L : List Sq) : List Sq × Int := if L.length ≤ 4096 then (if L.all Sq.okB then (regionS (normalS L), 0) else ([], 10)) else ([], 2)
theorem join_fold_len (R : List Sq) (C : List Sq) : (R.foldl joinStep C).length ≤ C.length := joins_len R C
theorem joinS_len (C : List Sq) : (joinS C).length ≤ C.length := by
  unfold joinS
  generalize List.range 11 = K
  induction K generalizing C with
  | nil => exact Nat.le_refl _
  | cons k K ih => exact Nat.le_trans (ih _) (joins_len _ _)
theorem normalS_len (L : List Sq) : (normalS L).length ≤ L.length := by
  rw [normal_eq]
  have h1 := joinS_len (L.foldl thinStep (L.foldl addS []))
  have h2 := thin_len L (L.foldl addS [])
  have h3 := ofList_len L []
  simp at h3
  omega
/-- a slice of squares and an errno are returned -/
def OutSq (o : List Sq × Int) (w : World) (e : Ending) (w' : World) : Prop :=
  (∃ A c, e = .returned (.tuple #[.slice A o.1.length c, .int .i64 o.2]) ∧ SqA w' w'.heap.size A o.1) ∧ Below w.heap.size w w'
theorem OutSq.nil {w w' : World} {o : List Sq × Int} {er : Int} (h : o = ([], er)) (hb : Below w.heap.size w w') : OutSq o w (.returned (.tuple #[.slice none 0 0, .int .i64 er])) w' := by
  subst h
  exact ⟨⟨none, 0, rfl, fun i s hs => by simp at hs⟩, hb⟩

theorem OutSq.mk {w w' : World} {o : List Sq × Int} {R : List Sq} {er : Int} {A : Option Addr} {c : Nat} (h : o = (R, er)) (hA : SqA w' w'.heap.size A R) (hb : Below w.heap.size w w') : OutSq o w (.returned (.tuple #[.slice A R.length c, .int .i64 er])) w' := by
  subst h
  exact ⟨⟨A, c, rfl, hA⟩, hb⟩

set_option maxHeartbeats 2000000 in
theorem Normal_any (v : Value) (L : List Sq) (w : World) (hv : SqSl w w.heap.size v L) (hn : L.length ≤ 1000000) :
    Calls Tryz.prog 8 #[v] w (OutSq (normalOut L) w) := by
  have HV := Lib.hid hv
  obtain ⟨A, c, rfl, hA⟩ := hv
  have HA := Lib.hid hA
  have HNm := Lib.hid (fun (w1 : World) (hb : Below w.heap.size w w1) (hok : ∀ s ∈ L, s.okB = true) => normalOf_any (.slice A L.length c) L w1 ⟨A, c, rfl, (hA.below hb).mono hb.size⟩ hok hn)
  have HLn := Lib.hid (normalS_len L)
  have HO := Lib.hid (show normalOut L = if L.length ≤ 4096 then (if L.all Sq.okB then (regionS (normalS L), 0) else ([], 10)) else ([], 2) from rfl)
  clear hA HV
  generalize hL : L.length = n at *
  have HL := Lib.hid hL
  clear hL
  go_enter Tryz.func8, Tryz.ntmps8
  by_cases hbig : n ≤ 4096
  · go_wp2_with fail
    go_loopw [11] (fun k wr => ∃ i : Nat, k = .int .i64 (i : Int) ∧ i ≤ n ∧ (∀ j s, j < i → L[j]? = some s → s.okB = true) ∧ Below w.heap.size w wr) (fun k _ => n - (intOf k).toNat)
    case atStart => exact ⟨0, rfl, Nat.zero_le _, fun j s hj => absurd hj (by omega), Below.refl _ _⟩
    case round =>
      obtain ⟨i, rfl, hin, hgood, hbel⟩ := hrel
      have HG := Lib.hid hgood
      have HB := Lib.hid hbel
      clear hgood hbel
      by_cases hlt : i < n
      · obtain ⟨s, ad, hs, hm, rfl, hb, h1, h2, h3⟩ := (HA.out.below HB.out).at_ HL.out hlt
        have HSi := Lib.hid hs
        have HM := Lib.hid hm
        have HVs := Lib.hid (fun w => ValidSquare_any s.l s.x s.y w)
        have HB1 := Lib.hid (HB.out.alloc HB.out.size (.cells #[.int .i64 s.l, .int .i64 s.x, .int .i64 s.y] 31))
        clear hs hm
        cases hok : s.okB
        · have hok' : Sq.okB ⟨s.l, s.x, s.y⟩ = false := hok
          rw [hok'] at HVs
          have HR := Lib.hid (show normalOut L = ([], 10) by
            rw [HO.out, if_pos hbig, if_neg]
            intro h
            rw [List.all_eq_true] at h
            rw [h s HM.out] at hok; cases hok)
          clear hok hok'
          go_wp2_with fail
          refine (HVs.out _).mono ?_
          rintro e w1 ⟨rfl, hb1⟩
          have HB2 := Lib.hid (HB1.out.trans (hb1.mono HB1.out.size))
          clear hb1
          go_wp2_with fail
          go_ret2
          exact OutSq.nil HR.out HB2.out
        · have hok' : Sq.okB ⟨s.l, s.x, s.y⟩ = true := hok
          rw [hok'] at HVs
          have HG2 := Lib.hid (show ∀ j t, j < i + 1 → L[j]? = some t → t.okB = true from fun j t hj ht => by
            by_cases e : j = i
            · subst e; have := HSi.out; rw [ht] at this; cases this; exact hok
            · exact HG.out j t (by omega) ht)
          clear hok hok'
          go_wp2_with fail
          refine (HVs.out _).mono ?_
          rintro e w1 ⟨rfl, hb1⟩
          have HB2 := Lib.hid (HB1.out.trans (hb1.mono HB1.out.size))
          clear hb1
          go_wp2_with fail
          go_roundw
          case rel => exact ⟨i + 1, by go_num, by omega, HG2.out, HB2.out⟩
          case measure => simp [intOf]; omega
      · have HOk := Lib.hid (show ∀ s ∈ L, s.okB = true from fun s hs => by
          obtain ⟨j, hj, rfl⟩ := List.getElem_of_mem hs
          exact HG.out j _ (by have := HL.out; omega) (List.getElem?_eq_getElem hj))
        have HR := Lib.hid (show normalOut L = (regionS (normalS L), 0) by
          rw [HO.out, if_pos hbig, if_pos (List.all_eq_true.2 HOk.out)])
        go_wp2_with fail
        refine (HNm.out wr HB.out HOk.out).mono ?_
        rintro e w1 ⟨b, rfl, hbge, hcov, hb1⟩
        have HC := Lib.hid (region_any b _ w1 hcov (by have := HLn.out; omega))
        have HB2 := Lib.hid (HB.out.trans (hb1.mono HB.out.size))
        clear hbge hcov hb1
        unfold covA at HC ⊢
        go_wp2_with fail
        refine HC.out.mono ?_
        rintro e w2 ⟨hb2, (⟨hl, rfl⟩ | ⟨hl, A', c', rfl, hA'⟩)⟩
        · have := HLn.out; omega
        · have HB3 := Lib.hid (HB2.out.trans (hb2.mono HB2.out.size))
          go_wp2_with fail
          go_ret2
          exact OutSq.mk HR.out hA' HB3.out
  · have HR := Lib.hid (show normalOut L = ([], 2) by rw [HO.out, if_neg hbig])
    have HR2 := Lib.hid (OutSq.nil HR.out (Below.refl w.heap.size w))
    clear HO HR HNm HLn
    generalize normalOut L = o at *
    go_wp2_with fail
    go_ret2
    exact HR2.out
end Go.Proofs.YtabolonlkocopaaGreatDoor
