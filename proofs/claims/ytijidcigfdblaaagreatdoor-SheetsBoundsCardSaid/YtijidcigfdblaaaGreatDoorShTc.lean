/- Numbers and fields are read: the program. -/
import Derived.Test.YtijidcigfdblaaaGreatDoorShTa
namespace Go.Sh
theorem nums_app : ∀ {a : List (List UInt8)} {l : List Int} {x : List UInt8} {n : Int}, numsR a = some l → numR x = some n → numsR (a ++ [x]) = some (l ++ [n])
  | [], l, x, n, h, hx => by
    simp only [numsR, Option.some.injEq] at h
    subst h
    simp [numsR, hx]
  | f :: r, l, x, n, h, hx => by
    unfold numsR at h
    cases hf : numR f with
    | none => rw [hf] at h; cases h
    | some m =>
      rw [hf] at h
      simp only at h
      cases hr : numsR r with
      | none => rw [hr] at h; cases h
      | some l' =>
        rw [hr] at h
        simp only [Option.some.injEq] at h
        subst h
        rw [List.cons_append]
        unfold numsR
        rw [hf, nums_app hr hx]
        rfl
theorem nums_none : ∀ {r : List (List UInt8)} {i : Nat} {x : List UInt8}, r[i]? = some x → numR x = none → numsR r = none
  | [], i, x, h, _ => by simp at h
  | f :: r, 0, x, h, hx => by
    simp only [List.getElem?_cons_zero, Option.some.injEq] at h
    subst h
    unfold numsR
    rw [hx]
  | f :: r, i + 1, x, h, hx => by
    rw [List.getElem?_cons_succ] at h
    have ih := nums_none h hx
    unfold numsR
    cases numR f with
    | none => rfl
    | some m => simp only; rw [ih]
theorem nums_next {r : List (List UInt8)} {l : List Int} {i : Nat} {x : List UInt8} {n : Int} (h : numsR (r.take i) = some l) (hx : r[i]? = some x) (hn : numR x = some n) : numsR (r.take (i + 1)) = some (l ++ [n]) := by
  rw [show r.take (i + 1) = r.take i ++ [x] from by rw [List.take_add_one, hx]; rfl]
  exact nums_app h hn
end Go.Sh
namespace Go.Proofs.YtijidcigfdblaaaGreatDoor
open Go.RowKit Go.Nm Go.Sh Go.Plc

theorem str_inj {a b : List UInt8} (h : (⟨a.toArray⟩ : ByteArray) = ⟨b.toArray⟩) : a = b := by
  have := congrArg (fun s : ByteArray => s.data.toList) h
  exact this
theorem ba_ne {a b : ByteArray} (h : ¬ a = b) : (a.toList == b.toList) = false := by
  rw [ByteArray.toList_eq, ByteArray.toList_eq, beq_eq_false_iff_ne]
  intro e
  have := congrArg (fun l : List UInt8 => (⟨l.toArray⟩ : ByteArray)) e
  exact h this
set_option maxRecDepth 100000 in
set_option maxHeartbeats 4000000 in
theorem readNumber_any (f : List UInt8) (w : World) (hl : f.length ≤ 100000) (hG : GlO w) : Calls Tryz.prog 200 #[str f] w fun e w' => e = .returned (.tuple #[.int .i64 ((numR f).getD 0), .bool (numR f).isSome]) ∧ Below w.heap.size w w' := by
  by_cases hok : ∃ v, Lib.atoiAll f = .ok v
  · obtain ⟨v, hv⟩ := hok
    have hvb : i64B v := Lib.atoiAll_bounds hv
    have HA := Lib.hid (Atoi_ok f v w hv hl)
    have HI := Lib.hid (fun w1 (h : Below w.heap.size w w1) => Itoa_any v w1 hvb (hG.below h))
    have hR : numR f = if itT v = f then some v else none := by unfold numR; rw [hv]
    obtain ⟨s1, hs1⟩ : ∃ s : ByteArray, (⟨(itT v).toArray⟩ : ByteArray) = s := ⟨_, rfl⟩
    obtain ⟨s2, hs2⟩ : ∃ s : ByteArray, (⟨f.toArray⟩ : ByteArray) = s := ⟨_, rfl⟩
    unfold str at HA HI ⊢
    by_cases he : itT v = f
    · have HF := Lib.hid (show numR f = some v from by rw [hR, if_pos he])
      have e2 : s1 = s2 := by rw [← hs1, ← hs2, he]
      rw [hs2] at HA ⊢
      rw [hs1, e2] at HI
      clear hs1 hs2 hR he hvb hv hG hl
      subst e2
      go_enter Tryz.func200, Tryz.ntmps200
      go_wp2_with fail
      refine HA.out.mono ?_
      rintro e w1 ⟨rfl, hb⟩
      have HB := Lib.hid hb
      clear hb
      go_wp2_with fail
      refine (HI.out _ HB.out).mono ?_
      rintro e w2 ⟨rfl, hb⟩
      have HB2 := Lib.hid (HB.out.trans (hb.mono HB.out.size))
      clear hb
      go_wp2_with fail
      go_ret2
      exact ⟨by rw [HF.out]; rfl, HB2.out⟩
    · have HF := Lib.hid (show numR f = none from by rw [hR, if_neg he])
      have e2 : ¬ s1 = s2 := fun h => he (str_inj (hs1.trans (h.trans hs2.symm)))
      rw [hs2] at HA ⊢
      rw [hs1] at HI
      clear hs1 hs2 hR he hvb hv hG hl
      have e3 : (s1.toList == s2.toList) = false := ba_ne e2
      go_enter Tryz.func200, Tryz.ntmps200
      go_wp2_with fail
      refine HA.out.mono ?_
      rintro e w1 ⟨rfl, hb⟩
      have HB := Lib.hid hb
      clear hb
      go_wp2_with fail
      refine (HI.out _ HB.out).mono ?_
      rintro e w2 ⟨rfl, hb⟩
      have HB2 := Lib.hid (HB.out.trans (hb.mono HB.out.size))
      clear hb
      go_wp2_with fail
      go_ret2
      exact ⟨by rw [HF.out]; rfl, HB2.out⟩
  · have hv : ∀ v, Lib.atoiAll f ≠ .ok v := fun v h => hok ⟨v, h⟩
    have HA := Lib.hid (Atoi_no f w hv hl hG)
    have HF := Lib.hid (show numR f = none from by
      unfold numR
      cases h : Lib.atoiAll f
      · exact absurd h (hv _)
      · rfl
      · rfl)
    unfold str at HA ⊢
    generalize (⟨f.toArray⟩ : ByteArray) = s at *
    clear hok hv hG hl
    go_enter Tryz.func200, Tryz.ntmps200
    go_wp2_with fail
    refine HA.out.mono ?_
    rintro e w1 ⟨⟨n, N, rfl⟩, hb⟩
    have HB := Lib.hid hb
    clear hb
    go_wp2_with fail
    go_ret2
    exact ⟨by rw [HF.out]; rfl, HB.out⟩
/-- numbers written into cells -/
def wrO (cs : Array Value) (ofs : List Nat) (l : List Int) : Array Value := (ofs.zip l).foldl (fun c p => c.setIfInBounds p.1 (.int .i64 p.2)) cs
theorem wrO_nil (cs : Array Value) (ofs : List Nat) : wrO cs ofs [] = cs := by unfold wrO; rw [List.zip_nil_right]; rfl
theorem zip_next : ∀ {ofs : List Nat} {l : List Int} {k : Nat} {n : Int}, ofs[l.length]? = some k → ofs.zip (l ++ [n]) = ofs.zip l ++ [(k, n)]
  | [], l, k, n, h => by simp at h
  | o :: ofs, [], k, n, h => by
    simp only [List.length_nil, List.getElem?_cons_zero, Option.some.injEq] at h
    subst h
    simp
  | o :: ofs, x :: l, k, n, h => by
    rw [List.length_cons, List.getElem?_cons_succ] at h
    rw [List.cons_append, List.zip_cons_cons, List.zip_cons_cons, zip_next h]; rfl
theorem wrO_next {cs : Array Value} {ofs : List Nat} {l : List Int} {k : Nat} {n : Int} (h : ofs[l.length]? = some k) : wrO cs ofs (l ++ [n]) = (wrO cs ofs l).setIfInBounds k (.int .i64 n) := by
  unfold wrO
  rw [zip_next h, List.foldl_append]; rfl
theorem wrO_size (cs : Array Value) : ∀ (ofs : List Nat) (l : List Int), (wrO cs ofs l).size = cs.size := by
  intro ofs l
  unfold wrO
  generalize ofs.zip l = z
  induction z generalizing cs with
  | nil => rfl
  | cons p z ih => rw [List.foldl_cons, ih]; simp
theorem wrO_int {cs : Array Value} {ofs : List Nat} {l : List Int} {k : Nat} (h : ∃ n, cs[k]? = some (.int .i64 n)) : ∃ n, (wrO cs ofs l)[k]? = some (.int .i64 n) := by
  unfold wrO
  generalize ofs.zip l = z
  induction z generalizing cs with
  | nil => exact h
  | cons p z ih =>
    rw [List.foldl_cons]
    refine ih ?_
    obtain ⟨n, hn⟩ := h
    by_cases e : p.1 = k
    · have hs := (Array.getElem?_eq_some_iff.1 hn).1
      exact ⟨p.2, by rw [e, Array.getElem?_setIfInBounds_self_of_lt hs]⟩
    · exact ⟨n, by rw [Array.getElem?_setIfInBounds_ne e]; exact hn⟩
theorem strVs_at {F : List (List UInt8)} {i : Nat} {f : List UInt8} (h : F[i]? = some f) : (strVs F)[i]? = some (str f) := by
  unfold strVs
  rw [List.getElem?_toArray, List.getElem?_map, h]; rfl
/-- fields in memory -/
def StB (w : World) (g : Nat) (F : List (List UInt8)) : Prop := w.heap[g]? = some (.cells (strVs F) 9)
theorem StB.at_ {w : World} {g : Nat} {F : List (List UInt8)} (h : StB w g F) {i : Nat} {f : List UInt8} (hf : F[i]? = some f) : w.cell? ⟨g, i, none⟩ = some (str f) := by
  unfold StB at h
  simp [World.cell?, h, strVs_at hf]
def ptrs (g : Nat) (ofs : List Nat) : Array Value := (ofs.map fun k => Value.pointer (some ⟨g, k, none⟩)).toArray
theorem ptrs_at {w : World} {g ig k i : Nat} {ofs : List Nat} (h : w.heap[ig]? = some (.cells (ptrs g ofs) 240)) (hk : ofs[i]? = some k) : w.cell? ⟨ig, i, none⟩ = some (.pointer (some ⟨g, k, none⟩)) := by
  have : (ptrs g ofs)[i]? = some (.pointer (some ⟨g, k, none⟩)) := by unfold ptrs; rw [List.getElem?_toArray, List.getElem?_map, hk]; rfl
  simp [World.cell?, h, this]
theorem ret_sl {a : Option Addr} {k k' : Nat} {b : Bool} (h : k = k') : Ending.returned (.tuple #[.slice a k k, .bool b]) = Ending.returned (.tuple #[.slice a k' k', .bool b]) := by rw [h]
def RfR (F : List (List UInt8)) (fg g : Nat) (T : TypeId) (cs : Array Value) (ofs : List Nat) (word : List UInt8) (w : World) (e : Ending) (w' : World) : Prop :=
  w.grownBy w' (some g) ∧ ((∃ l r ad, fldR word ofs.length F = some (l, r) ∧ e = .returned (.tuple #[.slice (some ad) (F.length - (1 + ofs.length)) (F.length - (1 + ofs.length)), .bool true]) ∧ (F.length ≠ 1 + ofs.length → ad = ⟨fg, 1 + ofs.length, none⟩) ∧ w'.heap[g]? = some (.cells (wrO cs ofs l) T)) ∨
    (fldR word ofs.length F = none ∧ e = .returned (.tuple #[.slice none 0 0, .bool false]) ∧ ∃ l, w'.heap[g]? = some (.cells (wrO cs ofs l) T)))
set_option maxRecDepth 100000 in
set_option maxHeartbeats 8000000 in
theorem readFields_any (f0 : List UInt8) (R : List (List UInt8)) (fg ig g : Nat) (word : List UInt8) (T : TypeId) (cs : Array Value) (ofs : List Nat) (w w0 : World) (hF : StB w fg (f0 :: R)) (hI : w.heap[ig]? = some (.cells (ptrs g ofs) 240)) (hg : w.heap[g]? = some (.cells cs T)) (hne : fg ≠ g ∧ ig ≠ g)
    (hof : ∀ k ∈ ofs, ∃ n, cs[k]? = some (.int .i64 n)) (hFl : ∀ f ∈ f0 :: R, f.length ≤ 100000) (hRl : R.length ≤ 100000) (hol : ofs.length ≤ 100) (hG : GlO w0) (hb0 : Below w0.heap.size w0 w) (hg0 : w0.heap.size ≤ g) :
    Calls Tryz.prog 199 #[.slice (some ⟨fg, 0, none⟩) (f0 :: R).length (f0 :: R).length, str word, .slice (some ⟨ig, 0, none⟩) ofs.length ofs.length] w (RfR (f0 :: R) fg g T cs ofs word w) := by
  obtain ⟨nr, hnr⟩ : ∃ n, R.length = n := ⟨_, rfl⟩
  obtain ⟨no, hno⟩ : ∃ n, ofs.length = n := ⟨_, rfl⟩
  obtain ⟨ro, hro⟩ : ∃ x, fldR word no (f0 :: R) = x := ⟨_, rfl⟩
  have HFd := Lib.hid (show ro = if f0 = word then (if no ≤ R.length then (match numsR (R.take no) with | none => none | some l => some (l, R.drop no)) else none) else none from hro.symm)
  have HRf := Lib.hid (show ∀ e w', w.grownBy w' (some g) → ((∃ l r ad, ro = some (l, r) ∧ e = .returned (.tuple #[.slice (some ad) (nr + 1 - (1 + no)) (nr + 1 - (1 + no)), .bool true]) ∧ (nr + 1 ≠ 1 + no → ad = ⟨fg, 1 + no, none⟩) ∧ w'.heap[g]? = some (.cells (wrO cs ofs l) T)) ∨ (ro = none ∧ e = .returned (.tuple #[.slice none 0 0, .bool false]) ∧ ∃ l, w'.heap[g]? = some (.cells (wrO cs ofs l) T))) → RfR (f0 :: R) fg g T cs ofs word w e w' from fun e w' a b => ⟨a, by rw [hno, hro, List.length_cons, hnr]; exact b⟩)
  obtain ⟨s0, hs0⟩ : ∃ s : ByteArray, (⟨f0.toArray⟩ : ByteArray) = s := ⟨_, rfl⟩
  obtain ⟨sw, hsw⟩ : ∃ s : ByteArray, (⟨word.toArray⟩ : ByteArray) = s := ⟨_, rfl⟩
  have c0 : w.cell? ⟨fg, 0, none⟩ = some (.string s0) := by rw [← hs0]; exact hF.at_ (i := 0) rfl
  have HEq := Lib.hid (show s0 = sw ↔ f0 = word from by rw [← hs0, ← hsw]; exact ⟨str_inj, fun h => by rw [h]⟩)
  have HG := Lib.hid hg
  have HNr := Lib.hid hnr
  have HNo := Lib.hid hno
  have H0 := Lib.hid (show w.heap[g]? = some (.cells (wrO cs ofs []) T) from by rw [wrO_nil]; exact hg)
  have HFk := Lib.hid (show ∀ Y, w.grownBy Y (some g) → (∀ i f, R[i]? = some f → Y.cell? ⟨fg, 1 + i, none⟩ = some (str f)) ∧ (∀ i k, ofs[i]? = some k → Y.cell? ⟨ig, i, none⟩ = some (.pointer (some ⟨g, k, none⟩))) ∧ GlO Y from fun Y hY => by
    have h1 := (hY.block fg (Array.getElem?_eq_some_iff.1 hF).1 (fun e => hne.1 (by injection e))).trans hF
    have h2 := (hY.block ig (Array.getElem?_eq_some_iff.1 hI).1 (fun e => hne.2 (by injection e))).trans hI
    exact ⟨fun i f hf => StB.at_ (F := f0 :: R) h1 (by rw [Nat.add_comm, List.getElem?_cons_succ]; exact hf), fun i k hk => ptrs_at h2 hk, hG.below (hb0.grown hY hb0.size (fun r e => by cases e; exact hg0))⟩)
  have HOf := Lib.hid hof
  have HFl := Lib.hid (fun i f (h : R[i]? = some f) => hFl f (List.mem_cons_of_mem _ (List.mem_of_getElem? h)))
  have hln : (f0 :: R).length = nr + 1 := by rw [List.length_cons, hnr]
  rw [hln, hno]
  unfold str
  rw [hsw]
  rw [hnr] at hRl
  rw [hno] at hol
  clear hF hI hg hne hof hFl hG hb0 hg0 hnr hno hro hs0 hsw hln
  by_cases hw : s0 = sw
  · have hwd := HEq.out.1 hw
    by_cases hle : no ≤ nr
    · have HFd2 := Lib.hid (show ro = match numsR (R.take no) with | none => none | some l => some (l, R.drop no) from by rw [HFd.out, if_pos hwd, if_pos (by rw [HNr.out]; exact hle)])
      subst hw
      have hcmp : ¬ ((nr + 1 : Nat) : Int) ≤ (no : Int) := by omega
      clear hwd HFd HEq
      go_enter Tryz.func199, Tryz.ntmps199
      go_wp2_with fail
      go_loopw [26] (fun iv wr => ∃ (i : Nat) (l : List Int), iv = .int .i64 (i : Int) ∧ i ≤ no ∧ numsR (R.take i) = some l ∧ w.grownBy wr (some g) ∧ wr.heap[g]? = some (.cells (wrO cs ofs l) T)) (fun iv _ => no - (intOf iv).toNat)
      case atStart => exact ⟨0, [], rfl, by omega, rfl, World.grownBy.refl _ _, H0.out⟩
      case round =>
        obtain ⟨i, l, rfl, hin, hnl, hgr, hgb⟩ := hrel
        have HNl := Lib.hid hnl
        have HGr := Lib.hid hgr
        have HGb := Lib.hid hgb
        by_cases hlt : i < no
        · obtain ⟨x, hx⟩ : ∃ x, R[i]? = some x := ⟨_, List.getElem?_eq_getElem (by rw [HNr.out]; omega)⟩
          obtain ⟨k, hk⟩ : ∃ k, ofs[i]? = some k := ⟨_, List.getElem?_eq_getElem (by rw [HNo.out]; exact hlt)⟩
          obtain ⟨k1, k2, k3⟩ := HFk.out wr hgr
          have cF := k1 i x hx
          have cP := k2 i k hk
          have cF2 : wr.cell? ⟨fg, i + 1, none⟩ = some (str x) := by rw [Nat.add_comm]; exact cF
          have HNum := Lib.hid (readNumber_any x wr (HFl.out i x hx) k3)
          have HX := Lib.hid (And.intro hx hk)
          obtain ⟨q, hq⟩ : ∃ q, numR x = q := ⟨_, rfl⟩
          rw [hq] at HNum
          have HQ := Lib.hid hq
          unfold str at HNum cF cF2
          obtain ⟨sx, hsx⟩ : ∃ s : ByteArray, (⟨x.toArray⟩ : ByteArray) = s := ⟨_, rfl⟩
          rw [hsx] at HNum cF cF2
          have hw1 : IntKind.i64.wrap (1 + (i : Int)) = ((1 + i : Nat) : Int) := by rw [IntKind.wrap_i64]; omega
          have his : 1 + i < nr + 1 := by omega
          clear hx hk k1 k2 k3 hnl hgr hgb hq hsx
          cases q with
          | none =>
            have HF := Lib.hid (show ro = none from by rw [HFd2.out, nums_none (i := i) (by rw [List.getElem?_take, if_pos hlt]; exact HX.out.1) HQ.out])
            go_wp2_with fail
            refine HNum.out.mono ?_
            rintro e w1 ⟨rfl, hb⟩
            have HE := Lib.hid (show w.grownBy w1 (some g) ∧ w1.heap[g]? = some (.cells (wrO cs ofs l) T) from ⟨HGr.out.trans (grown_of_below hb _), (hb.block _ (Array.getElem?_eq_some_iff.1 HGb.out).1).trans HGb.out⟩)
            clear hb
            go_wp2_with fail
            go_ret2
            exact HRf.out _ _ HE.out.1 (.inr ⟨HF.out, rfl, l, HE.out.2⟩)
          | some n =>
            have HN2 := Lib.hid (nums_next HNl.out HX.out.1 HQ.out)
            have HLl := Lib.hid (show l.length = i from by have := numsR_len HNl.out; rw [this, List.length_take, HNr.out]; omega)
            go_wp2_with fail
            refine HNum.out.mono ?_
            rintro e w1 ⟨rfl, hb⟩
            have hgb1 := (hb.block _ (Array.getElem?_eq_some_iff.1 HGb.out).1).trans HGb.out
            have HG1 := Lib.hid (HGr.out.trans (grown_of_below hb _))
            obtain ⟨cP1, -⟩ : w1.cell? ⟨ig, i, none⟩ = some (.pointer (some ⟨g, k, none⟩)) ∧ True := ⟨(HFk.out w1 HG1.out).2.1 i k HX.out.2, trivial⟩
            obtain ⟨n0, hn0⟩ := wrO_int (ofs := ofs) (l := l) (HOf.out k (List.mem_of_getElem? HX.out.2))
            have cO : w1.cell? ⟨g, k, none⟩ = some (.int .i64 n0) := by simp [World.cell?, hgb1, hn0]
            have fO := frozen_cells hgb1 k
            have HW := Lib.hid (show w.grownBy (w1.setCell ⟨g, k, none⟩ (.int .i64 n)) (some g) ∧ (w1.setCell ⟨g, k, none⟩ (.int .i64 n)).heap[g]? = some (.cells (wrO cs ofs (l ++ [n])) T) from
              ⟨HG1.out.trans (setCell_grown' _ _ _ _), by rw [put_cell hgb1, wrO_next (by rw [HLl.out]; exact HX.out.2)]⟩)
            clear hb hgb1 hn0
            go_wp2_with fail
            go_roundw
            case rel => exact ⟨i + 1, l ++ [n], by go_num, by omega, HN2.out, HW.out.1, HW.out.2⟩
            case measure => simp [intOf]; omega
        · obtain rfl : no = i := by omega
          have HF := Lib.hid (show ro = some (l, R.drop no) from by rw [HFd2.out, HNl.out])
          have hw1 : IntKind.i64.wrap (1 + (no : Int)) = ((1 + no : Nat) : Int) := by rw [IntKind.wrap_i64]; omega
          have hsl : 1 + no ≤ nr + 1 := by omega
          clear hnl hgr hgb
          by_cases hcap : nr + 1 = 1 + no
          · go_wp2_with fail
            go_ret2
            exact HRf.out _ _ HGr.out (.inl ⟨l, _, _, HF.out, ret_sl (by omega), fun h => absurd hcap h, HGb.out⟩)
          · go_wp2_with fail
            go_ret2
            exact HRf.out _ _ HGr.out (.inl ⟨l, _, _, HF.out, rfl, fun _ => rfl, HGb.out⟩)
    · have HF := Lib.hid (show ro = none from by rw [HFd.out, if_pos hwd, if_neg (by rw [HNr.out]; exact hle)])
      subst hw
      have hcmp : ((nr + 1 : Nat) : Int) ≤ (no : Int) := by omega
      clear hwd HFd HEq
      go_enter Tryz.func199, Tryz.ntmps199
      go_wp2_with fail
      go_ret2
      exact HRf.out _ _ (World.grownBy.refl _ _) (.inr ⟨HF.out, rfl, [], H0.out⟩)
  · have HF := Lib.hid (show ro = none from by rw [HFd.out, if_neg (fun h => hw (HEq.out.2 h))])
    have e3 : (s0.toList == sw.toList) = false := ba_ne hw
    clear HFd HEq
    go_enter Tryz.func199, Tryz.ntmps199
    go_wp2_with fail
    go_ret2
    exact HRf.out _ _ (World.grownBy.refl _ _) (.inr ⟨HF.out, rfl, [], H0.out⟩)
end Go.Proofs.YtijidcigfdblaaaGreatDoor
