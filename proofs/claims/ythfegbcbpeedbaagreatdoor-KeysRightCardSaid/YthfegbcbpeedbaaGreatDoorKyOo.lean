
/- Wrong, Right. -/
import Derived.Test.YthfegbcbpeedbaaGreatDoorKyOl
namespace Go.Ky
open Go.Nm
theorem walk_rg {k : Kx} {seen : List Int} (hk : ∀ (i : Nat) (r : Rw), k.nd[i]? = some r → ∀ x ∈ r.may, -(k.lv.length : Int) ≤ x ∧ x < k.nd.length) :
    ∀ (d : Nat) (B : List Int) (a : Int), B.Nodup → (∀ z ∈ B, -(k.lv.length : Int) ≤ z ∧ z < k.nd.length) → (-(k.lv.length : Int) ≤ a ∧ a < k.nd.length) → (walkF k seen d B a).Nodup ∧ ∀ z ∈ walkF k seen d B a, -(k.lv.length : Int) ≤ z ∧ z < k.nd.length := by
  intro d
  induction d with
  | zero => intro B a h1 h2 _; exact ⟨h1, h2⟩
  | succ d ih =>
    intro B a h1 h2 h3
    by_cases hm : a ∈ B
    · rw [walk_mem hm]; exact ⟨h1, h2⟩
    have g1 : (B ++ [a]).Nodup := by
      rw [List.nodup_append]
      exact ⟨h1, by simp, fun x hx y hy e => by simp at hy; subst hy; subst e; exact hm hx⟩
    have g2 : ∀ z ∈ B ++ [a], -(k.lv.length : Int) ≤ z ∧ z < k.nd.length := fun z hz => by
      rcases List.mem_append.1 hz with hz | hz
      · exact h2 z hz
      · simp at hz; subst hz; exact h3
    by_cases ha : a < 0
    · rw [walk_leaf hm ha]; exact ⟨g1, g2⟩
    obtain ⟨i, rfl⟩ : ∃ i : Nat, a = (i : Int) := ⟨a.toNat, by omega⟩
    have hi : i < k.nd.length := by omega
    rw [walk_node hm (List.getElem?_eq_getElem hi)]
    have hx := hk i _ (List.getElem?_eq_getElem hi)
    have key : ∀ (Z : List (Int × Nat)) (B : List Int), B.Nodup → (∀ z ∈ B, -(k.lv.length : Int) ≤ z ∧ z < k.nd.length) → (∀ p ∈ Z, p.1 ∈ k.nd[i].may) → (Z.foldl (wkStep k seen d k.nd[i].nm) B).Nodup ∧ ∀ z ∈ Z.foldl (wkStep k seen d k.nd[i].nm) B, -(k.lv.length : Int) ≤ z ∧ z < k.nd.length := by
      intro Z
      induction Z with
      | nil => intro B h1 h2 _; exact ⟨h1, h2⟩
      | cons p Z ihZ =>
        intro B h1 h2 h3
        rw [List.foldl_cons]
        have h4 : (wkStep k seen d k.nd[i].nm B p).Nodup ∧ ∀ z ∈ wkStep k seen d k.nd[i].nm B p, -(k.lv.length : Int) ≤ z ∧ z < k.nd.length := by
          unfold wkStep
          split
          · exact ih B p.1 h1 h2 (hx p.1 (h3 p (by simp)))
          · exact ⟨h1, h2⟩
        exact ihZ _ h4.1 h4.2 (fun q hq => h3 q (by simp [hq]))
    exact key _ _ g1 g2 (fun p hp => by
      obtain ⟨j, hj, e⟩ := List.getElem_of_mem hp
      have h5 : (k.nd[i].may.zipIdx)[j]? = some p := by rw [← e]; exact List.getElem?_eq_getElem hj
      rw [List.getElem?_zipIdx] at h5
      cases h6 : k.nd[i].may[j]? with
      | none => rw [h6] at h5; cases h5
      | some x =>
        rw [h6] at h5
        simp at h5
        subst h5
        exact List.mem_of_getElem? h6)
theorem reach_len {st : List Int} {k : Kx} {seen : List Int} (hok : KOk st k) (hl : 1 ≤ k.lv.length) : (reachF k seen).length ≤ 1000 + k.lv.length := by
  have h := walk_rg (k := k) (seen := seen) (fun i r hr x hx => by have := (hok.nd i r hr).2.2.2 x hx; omega) (k.nd.length + 1) [] (begF k) (by simp) (fun z hz => by simp at hz) (by unfold begF; split <;> omega)
  have h2 := range_len (a := k.nd.length) (b := k.lv.length) h.1 h.2
  have h3 : (reachF k seen).length ≤ (walkF k seen (k.nd.length + 1) [] (begF k)).length := by
    unfold reachF lvsF; rw [List.length_map]; exact List.length_filter_le _ _
  have := hok.nn
  omega
end Go.Ky
namespace Go.Proofs.YthfegbcbpeedbaaGreatDoor
open Go.RowKit Go.Nm Go.Ky

set_option maxRecDepth 100000 in
set_option maxHeartbeats 4000000 in
theorem IndexWr_any (g : Nat) (P : Rw → Bool) (v : Value) (L : List Rw) (w : World) (hv : IlSl w w.heap.size v L) (hn : L.length ≤ 100000)
    (hF : ∀ X, Below w.heap.size w X → ∀ (r : Rw) (Am : Option Addr) (cm : Nat), r ∈ L → InSl X X.heap.size (.slice Am r.may.length cm) r.may → Calls Tryz.prog 27 #[.agg #[.int .i64 r.nm, .slice Am r.may.length cm], .pointer (some ⟨g, 0, none⟩)] X fun e w' => e = .returned (.bool (P r)) ∧ Below X.heap.size X w') :
    Calls Tryz.prog 55 #[v, .func (.func 27) #[] #[.pointer (some ⟨g, 0, none⟩)]] w fun e w' =>
      ((∃ (i : Nat) (r : Rw), e = .returned (.int .i64 (i : Int)) ∧ L[i]? = some r ∧ i < L.length ∧ L.find? P = some r) ∨ (e = .returned (.int .i64 (-1)) ∧ L.find? P = none)) ∧ Below w.heap.size w w' := by
  have HFc := Lib.hid hF
  have HU := Lib.hid hv
  obtain ⟨A, c, rfl⟩ := hv.form
  obtain ⟨n, h⟩ : ∃ n, L.length = n := ⟨_, rfl⟩
  have HN := Lib.hid h
  rw [h] at HU hn ⊢
  clear hv h hF
  go_enter Tryz.func55, Tryz.ntmps55
  go_wp2_with fail
  go_loopw [8] (fun iv wr => ∃ i : Nat, iv = .int .i64 (i : Int) ∧ i ≤ n ∧ Below w.heap.size w wr ∧ ∀ x ∈ L.take i, P x = false) (fun iv _ => n - (intOf iv).toNat)
  case atStart => exact ⟨0, rfl, by omega, Below.refl _ _, fun x hx => by simp at hx⟩
  case round =>
    obtain ⟨i, rfl, hin, hb, hno⟩ := hrel
    have HB := Lib.hid hb
    have HNo := Lib.hid hno
    clear hb hno
    by_cases hlt : i < n
    · obtain ⟨r, ad, Am, cm, hr, rfl, hY⟩ := HU.out.at_ hlt
      obtain ⟨⟨d0, d1⟩, hm⟩ := hY wr HB.out
      have HR := Lib.hid hr
      have HC := Lib.hid (HFc.out wr HB.out r Am cm (List.mem_of_getElem? hr) hm)
      generalize r.may.length = rl at *
      clear hr hY hm
      obtain ⟨b, hb⟩ : ∃ b, P r = b := ⟨_, rfl⟩
      rw [hb] at HC
      have HBb := Lib.hid hb
      clear hb
      go_wp2_with fail
      (with_reducible refine HC.out.mono ?_)
      rintro e w1 ⟨rfl, hb⟩
      have HB1 := Lib.hid (HB.out.trans (hb.mono HB.out.size))
      clear hb d0 d1 HC
      cases b with
      | true =>
        have HF := Lib.hid (find_at HR.out HBb.out HNo.out)
        go_wp2_with fail
        go_ret
        exact ⟨.inl ⟨i, r, rfl, HR.out, hlt, HF.out⟩, HB1.out⟩
      | false =>
        go_wp2_with fail
        go_roundw
        case rel => exact ⟨i + 1, by go_num, by omega, HB1.out, fun x hx => by
          rw [show L.take (i + 1) = L.take i ++ [r] from by rw [List.take_add_one, HR.out]; rfl] at hx
          rcases List.mem_append.1 hx with hx | hx
          · exact HNo.out x hx
          · simp at hx; subst hx; exact HBb.out⟩
        case measure => simp [intOf]; try omega
    · obtain rfl : n = i := by omega
      have HF := Lib.hid (show L.find? P = none from List.find?_eq_none.2 fun x hx => by
        have h := HNo.out x (by rw [List.take_of_length_le (by have := HN.out; omega)]; exact hx)
        simp [h])
      go_wp2_with fail
      go_ret
      exact ⟨.inr ⟨rfl, HF.out⟩, HB.out⟩
set_option maxRecDepth 100000 in
set_option maxHeartbeats 4000000 in
theorem IndexUs_any (g h : Nat) (P : Rw → Bool) (v : Value) (L : List Rw) (w : World) (hv : IlSl w w.heap.size v L) (hn : L.length ≤ 100000)
    (hF : ∀ X, Below w.heap.size w X → ∀ (r : Rw) (Am : Option Addr) (cm : Nat), r ∈ L → InSl X X.heap.size (.slice Am r.may.length cm) r.may → Calls Tryz.prog 99 #[.agg #[.int .i64 r.nm, .slice Am r.may.length cm], .pointer (some ⟨g, 0, none⟩), .pointer (some ⟨h, 0, none⟩)] X fun e w' => e = .returned (.bool (P r)) ∧ Below X.heap.size X w') :
    Calls Tryz.prog 55 #[v, .func (.func 99) #[] #[.pointer (some ⟨g, 0, none⟩), .pointer (some ⟨h, 0, none⟩)]] w fun e w' =>
      ((∃ (i : Nat) (r : Rw), e = .returned (.int .i64 (i : Int)) ∧ L[i]? = some r ∧ i < L.length ∧ L.find? P = some r) ∨ (e = .returned (.int .i64 (-1)) ∧ L.find? P = none)) ∧ Below w.heap.size w w' := by
  have HFc := Lib.hid hF
  have HU := Lib.hid hv
  obtain ⟨A, c, rfl⟩ := hv.form
  obtain ⟨n, h⟩ : ∃ n, L.length = n := ⟨_, rfl⟩
  have HN := Lib.hid h
  rw [h] at HU hn ⊢
  clear hv h hF
  go_enter Tryz.func55, Tryz.ntmps55
  go_wp2_with fail
  go_loopw [8] (fun iv wr => ∃ i : Nat, iv = .int .i64 (i : Int) ∧ i ≤ n ∧ Below w.heap.size w wr ∧ ∀ x ∈ L.take i, P x = false) (fun iv _ => n - (intOf iv).toNat)
  case atStart => exact ⟨0, rfl, by omega, Below.refl _ _, fun x hx => by simp at hx⟩
  case round =>
    obtain ⟨i, rfl, hin, hb, hno⟩ := hrel
    have HB := Lib.hid hb
    have HNo := Lib.hid hno
    clear hb hno
    by_cases hlt : i < n
    · obtain ⟨r, ad, Am, cm, hr, rfl, hY⟩ := HU.out.at_ hlt
      obtain ⟨⟨d0, d1⟩, hm⟩ := hY wr HB.out
      have HR := Lib.hid hr
      have HC := Lib.hid (HFc.out wr HB.out r Am cm (List.mem_of_getElem? hr) hm)
      generalize r.may.length = rl at *
      clear hr hY hm
      obtain ⟨b, hb⟩ : ∃ b, P r = b := ⟨_, rfl⟩
      rw [hb] at HC
      have HBb := Lib.hid hb
      clear hb
      go_wp2_with fail
      (with_reducible refine HC.out.mono ?_)
      rintro e w1 ⟨rfl, hb⟩
      have HB1 := Lib.hid (HB.out.trans (hb.mono HB.out.size))
      clear hb d0 d1 HC
      cases b with
      | true =>
        have HF := Lib.hid (find_at HR.out HBb.out HNo.out)
        go_wp2_with fail
        go_ret
        exact ⟨.inl ⟨i, r, rfl, HR.out, hlt, HF.out⟩, HB1.out⟩
      | false =>
        go_wp2_with fail
        go_roundw
        case rel => exact ⟨i + 1, by go_num, by omega, HB1.out, fun x hx => by
          rw [show L.take (i + 1) = L.take i ++ [r] from by rw [List.take_add_one, HR.out]; rfl] at hx
          rcases List.mem_append.1 hx with hx | hx
          · exact HNo.out x hx
          · simp at hx; subst hx; exact HBb.out⟩
        case measure => simp [intOf]; try omega
    · obtain rfl : n = i := by omega
      have HF := Lib.hid (show L.find? P = none from List.find?_eq_none.2 fun x hx => by
        have h := HNo.out x (by rw [List.take_of_length_le (by have := HN.out; omega)]; exact hx)
        simp [h])
      go_wp2_with fail
      go_ret
      exact ⟨.inr ⟨rfl, HF.out⟩, HB.out⟩
set_option maxRecDepth 100000 in
set_option maxHeartbeats 4000000 in
theorem findWr_any (g : Nat) (P : Rw → Bool) (v : Value) (L : List Rw) (w : World) (hv : IlSl w w.heap.size v L) (hn : L.length ≤ 100000)
    (hF : ∀ X, Below w.heap.size w X → ∀ (r : Rw) (Am : Option Addr) (cm : Nat), r ∈ L → InSl X X.heap.size (.slice Am r.may.length cm) r.may → Calls Tryz.prog 27 #[.agg #[.int .i64 r.nm, .slice Am r.may.length cm], .pointer (some ⟨g, 0, none⟩)] X fun e w' => e = .returned (.bool (P r)) ∧ Below X.heap.size X w') :
    Calls Tryz.prog 26 #[v, .func (.func 27) #[] #[.pointer (some ⟨g, 0, none⟩)]] w fun e w' =>
      ((∃ r Am cm, L.find? P = some r ∧ e = .returned (.tuple #[.agg #[.int .i64 r.nm, .slice Am r.may.length cm], .bool true]) ∧ InSl w' w'.heap.size (.slice Am r.may.length cm) r.may) ∨ (L.find? P = none ∧ e = .returned (.tuple #[.agg #[.int .i64 0, .slice none 0 0], .bool false]))) ∧ Below w.heap.size w w' := by
  have hb := below_new (w := w) (.cells #[.int .i64 0, .slice none 0 0] 58)
  have hnw := World.alloc_heap_new w (.cells #[.int .i64 0, .slice none 0 0] 58)
  have HB := Lib.hid hb
  have HNw := Lib.hid hnw
  have HI := Lib.hid (IndexWr_any g P v L (w.alloc (.cells #[.int .i64 0, .slice none 0 0] 58)) (hv.step hb) hn (fun X hX => hF X (hb.trans (hX.mono hb.size))))
  have HU := Lib.hid hv
  obtain ⟨A, c, rfl⟩ := hv.form
  obtain ⟨n, h⟩ : ∃ n, L.length = n := ⟨_, rfl⟩
  rw [h] at HU hn HI ⊢
  clear hv h hb hnw hF
  go_enter Tryz.func26, Tryz.ntmps26
  go_wp2_with fail
  (with_reducible refine HI.out.mono ?_)
  rintro e w1 ⟨hR, hb1⟩
  have HB1 := Lib.hid (HB.out.trans (hb1.mono HB.out.size))
  have hN1 := (hb1.block _ (Array.getElem?_eq_some_iff.1 HNw.out).1).trans HNw.out
  obtain ⟨r0, r1⟩ := cells_two hN1
  have f0 := frozen_cells hN1 0
  have f1 := frozen_cells hN1 1
  have HN1 := Lib.hid hN1
  clear hb1 hN1
  rcases hR with ⟨i, r, rfl, hr, hi, hf⟩ | ⟨rfl, hf⟩
  · obtain ⟨r', ad, Am, cm, hr', rfl, hY⟩ := HU.out.at_ (show i < n from by omega)
    rw [hr] at hr'; injection hr' with hr'; subst hr'
    obtain ⟨⟨d0, d1⟩, _⟩ := hY w1 HB1.out
    have HBf := Lib.hid (show Below w.heap.size w ((w1.setCell ⟨w.heap.size, 0, none⟩ (.int .i64 r.nm)).setCell ⟨w.heap.size, 1, none⟩ (.slice Am r.may.length cm)) from (HB1.out.setCell (by simp) _).setCell (by simp) _)
    have HS := Lib.hid ((hY _ HBf.out).2)
    have HF := Lib.hid hf
    have hin : i < n := by omega
    obtain ⟨k, hk⟩ : ∃ k, r.may.length = k := ⟨_, rfl⟩
    have HK := Lib.hid hk
    rw [hk] at d1 HBf HS
    clear hY hf hr hi hk
    go_wp2_with fail
    exact bodyPost_ret (v := .tuple #[.agg #[.int .i64 r.nm, .slice Am k cm], .bool true]) (by simp [results, Tryz.results26, go_sem, r0, r1]) rfl ⟨.inl ⟨r, Am, cm, HF.out, by rw [HK.out], by rw [HK.out]; exact HS.out⟩, HBf.out⟩
  · have HF := Lib.hid hf
    clear hf
    go_wp2_with fail
    exact bodyPost_ret (v := .tuple #[.agg #[.int .i64 0, .slice none 0 0], .bool false]) (by simp [results, Tryz.results26, go_sem, r0, r1]) rfl ⟨.inr ⟨HF.out, rfl⟩, (HB1.out.setCell (by simp) _).setCell (by simp) _⟩
set_option maxRecDepth 100000 in
set_option maxHeartbeats 4000000 in
theorem wrong1_any (g : Nat) (r : Rw) (Am : Option Addr) (cm : Nat) (k : Kx) (st : List Int) (A1 A2 : Option Addr) (c1 c2 : Nat) (w : World) (hg : w.heap[g]? = some (.cells #[.slice A1 k.nd.length c1, .slice A2 k.lv.length c2] 29)) (hu : KyV w (.agg #[.slice A1 k.nd.length c1, .slice A2 k.lv.length c2]) k) (hm : InSl w w.heap.size (.slice Am r.may.length cm) r.may) (hk : KSm k) (hok : KOk st k) (hss : r.may.length = st.length) (hl : leavesF k.lv = true) :
    Calls Tryz.prog 27 #[.agg #[.int .i64 r.nm, .slice Am r.may.length cm], .pointer (some ⟨g, 0, none⟩)] w fun e w' => e = .returned (.bool (misF k r.nm r.may)) ∧ Below w.heap.size w w' := by
  have hb := below_new (w := w) (.cells #[.int .i64 r.nm, .slice Am r.may.length cm] 58)
  have hx := cells_two (World.alloc_heap_new w (.cells #[.int .i64 r.nm, .slice Am r.may.length cm] 58))
  obtain ⟨g0, g1⟩ := cells_two ((hb.block _ (Array.getElem?_eq_some_iff.1 hg).1).trans hg)
  obtain ⟨g2, g3⟩ := cells_two ((hb.block _ (Array.getElem?_eq_some_iff.1 hg).1).trans hg)
  obtain ⟨W0, hW0⟩ : ∃ W, w.alloc (.cells #[.int .i64 r.nm, .slice Am r.may.length cm] 58) = W := ⟨_, rfl⟩
  rw [hW0] at hb hx g0 g1
  obtain ⟨k0, k1⟩ := hx
  have HW0 := Lib.hid hW0
  have HB := Lib.hid hb
  have HC := Lib.hid (misleads_any _ _ k r.nm r.may st W0 (hu.step hb) (hm.step hb) hk hok hss hl (by have := reach_len (seen := r.may) hok (leaves_nms hl).1; have := hk.2.1; omega))
  obtain ⟨b, hbb⟩ : ∃ b, misF k r.nm r.may = b := ⟨_, rfl⟩
  rw [hbb] at HC ⊢
  generalize k.nd.length = nn at *
  generalize k.lv.length = nl at *
  generalize r.may.length = rl at *
  clear hg hu hm hk hok hss hl hb hW0 hbb
  go_enter Tryz.func27, Tryz.ntmps27
  go_wp2_with fail
  rw [HW0.out]
  (try go_wp2_with fail)
  (with_reducible refine HC.out.mono ?_)
  rintro e w1 ⟨rfl, hb⟩
  have HB1 := Lib.hid (HB.out.trans (hb.mono HB.out.size))
  clear hb
  go_wp2_with fail
  go_ret
  exact ⟨rfl, HB1.out⟩
end Go.Proofs.YthfegbcbpeedbaaGreatDoor
namespace Go.Ky
open Go.Nm
def wrongR (m : Mx) (k : Kx) : Option Rw := m.rows.find? fun r => misF k r.nm r.may
def wrongE (m : Mx) (k : Kx) : Int := if ckE m k = 0 then (if (wrongR m k).isSome = true then 0 else 3) else ckE m k
def wrongN (m : Mx) (k : Kx) : Int := if wrongE m k = 0 then ((wrongR m k).getD ⟨0, []⟩).nm else 0
def wrongL (m : Mx) (k : Kx) : List Int := if wrongE m k = 0 then firstF k ((wrongR m k).getD ⟨0, []⟩) else []
theorem fmI_end {k : Kx} {name : Int} {n : Nat} {may : Int} {c s : Nat} {f g : Nat → Int} : fmI k name n may c 0 s f g = (f, g) := rfl
theorem fmI_hit {k : Kx} {name : Int} {n : Nat} {may : Int} {c d s : Nat} {f g : Nat → Int} {z : Int} (hz : meetF may (2 ^ s) = z) (h : z ≠ 0) (hm : misF k name ((List.range n).map (Go.Proofs.YthfegbcbpeedbaaGreatDoor.updP f c z)) = true) : fmI k name n may c (d + 1) s f g = (Go.Proofs.YthfegbcbpeedbaaGreatDoor.updP f c z, Go.Proofs.YthfegbcbpeedbaaGreatDoor.updP g c (s : Int)) := by
  subst hz
  show (if _ then _ else _) = _
  rw [if_pos ⟨h, hm⟩]
theorem fmI_miss {k : Kx} {name : Int} {n : Nat} {may : Int} {c d s : Nat} {f g : Nat → Int} {z : Int} (hz : meetF may (2 ^ s) = z) (h : z = 0 ∨ misF k name ((List.range n).map (Go.Proofs.YthfegbcbpeedbaaGreatDoor.updP f c z)) = false) : fmI k name n may c (d + 1) s f g = fmI k name n may c d (s + 1) (Go.Proofs.YthfegbcbpeedbaaGreatDoor.updP f c z) g := by
  subst hz
  show (if _ then _ else _) = _
  rw [if_neg (fun h2 => by
    rcases h with h | h
    · exact h2.1 h
    · rw [h] at h2; cases h2.2)]
end Go.Ky
namespace Go.Proofs.YthfegbcbpeedbaaGreatDoor
open Go.RowKit Go.Nm Go.Ky

/-- a row of numbers of the call's own, of this length at least -/
structure IwC (W : World) (gw n : Nat) (f : Nat → Int) (X : World) : Prop where
  bel : Below W.heap.size W X
  cs : ∃ cs : Array Value, X.heap[gw]? = some (.cells cs 3) ∧ n ≤ cs.size ∧ ∀ k, k < n → cs[k]? = some (.int .i64 (f k))
  base : W.heap.size ≤ gw
section
variable {W X Y : World} {gw n : Nat} {f : Nat → Int}
theorem IwC.kept {row : Option Nat} (h : IwC W gw n f X) (hg : X.grownBy Y row) (hr : ∀ r, row = some r → W.heap.size ≤ r ∧ r ≠ gw) : IwC W gw n f Y := by
  obtain ⟨cs, h1, h2⟩ := h.cs
  exact ⟨h.bel.grown hg h.bel.size (fun r e => (hr r e).1), ⟨cs, (hg.block _ (Array.getElem?_eq_some_iff.1 h1).1 (fun e => (hr _ e.symm).2 rfl)).trans h1, h2⟩, h.base⟩
theorem IwC.step (h : IwC W gw n f X) (hb : Below X.heap.size X Y) : IwC W gw n f Y := h.kept (grown_of_below hb none) (fun _ e => nomatch e)
theorem IwC.cell (h : IwC W gw n f X) {k : Nat} (hk : k < n) : X.cell? ⟨gw, k, none⟩ = some (.int .i64 (f k)) := by
  obtain ⟨cs, h1, h2, h3⟩ := h.cs
  simp only [World.cell?, h1]
  exact h3 k hk
theorem IwC.froz (h : IwC W gw n f X) (k : Nat) : X.frozen? ⟨gw, k, none⟩ = false := by
  obtain ⟨cs, h1, _⟩ := h.cs
  exact frozen_cells h1 k
theorem IwC.lt (h : IwC W gw n f X) : gw < X.heap.size := by
  obtain ⟨cs, h1, _⟩ := h.cs
  exact (Array.getElem?_eq_some_iff.1 h1).1
theorem IwC.set (h : IwC W gw n f X) (k : Nat) (z : Int) : IwC W gw n (updP f k z) (X.setCell ⟨gw, k, none⟩ (.int .i64 z)) := by
  obtain ⟨cs, h1, h2, h3⟩ := h.cs
  refine ⟨h.bel.setCell h.base _, ⟨cs.setIfInBounds k (.int .i64 z), heap_setCell_same X gw k _ _ _ h1, by simp [h2], fun j hj => ?_⟩, h.base⟩
  unfold updP
  by_cases e : j = k
  · subst e
    rw [Array.getElem?_setIfInBounds_self_of_lt (by omega), if_pos rfl]
  · rw [Array.getElem?_setIfInBounds_ne (by omega), h3 j hj, if_neg e]
theorem IwC.sl {c : Nat} (h : IwC W gw n f X) (hc : n ≤ c) (hm : c ≤ maxLen) : InSl X X.heap.size (.slice (some ⟨gw, 0, none⟩) n c) ((List.range n).map f) :=
  ⟨some ⟨gw, 0, none⟩, c, by rw [List.length_map, List.length_range], by rw [List.length_map, List.length_range]; exact hc, hm, fun i x hx => by
    have hi : i < n := by have := (List.getElem?_eq_some_iff.1 hx).1; simpa using this
    refine ⟨⟨gw, 0, none⟩, rfl, h.lt, ?_⟩
    rw [add_zero_k, h.cell hi]
    rw [List.getElem?_map, List.getElem?_range hi] at hx
    simpa using hx⟩
theorem IwI.kept {row : Option Nat} (h : IwI W gw n f X) (hg : X.grownBy Y row) (hr : ∀ r, row = some r → W.heap.size ≤ r ∧ r ≠ gw) : IwI W gw n f Y := by
  obtain ⟨cs, h1, h2⟩ := h.cs
  exact ⟨h.bel.grown hg h.bel.size (fun r e => (hr r e).1), ⟨cs, (hg.block _ (Array.getElem?_eq_some_iff.1 h1).1 (fun e => (hr _ e.symm).2 rfl)).trans h1, h2⟩, h.base⟩
theorem OwN.iwc {v : Value} {L : List Int} (h : OwN W v L X) (hn : 0 < L.length) : ∃ g cap, v = .slice (some ⟨g, 0, none⟩) L.length cap ∧ L.length ≤ cap ∧ cap ≤ maxLen ∧ IwC W g L.length (fun i => L.getD i 0) X := by
  rcases h.own.2 with ⟨_, h0⟩ | ⟨g, cap, cur, e, hb, hg, h1, h2, h3, h4⟩
  · omega
  · refine ⟨g, cap, e, h1, h2, h.bel, ⟨cur, hg, by omega, fun k hk => ?_⟩, hb⟩
    have h5 : cur.toList[k]? = (intsV L)[k]? := by
      rw [← h4, List.getElem?_take_of_lt (by omega)]
    rw [Array.getElem?_toList] at h5
    rw [h5, intsV, List.getElem?_map, List.getElem?_eq_getElem hk, List.getD_eq_getElem?_getD, List.getElem?_eq_getElem hk]
    rfl
theorem IwC.low {W' : World} (h : IwC W gw n f X) (hb : Below W'.heap.size W' W) : IwC W' gw n f X := ⟨hb.trans (h.bel.mono hb.size), h.cs, Nat.le_trans hb.size h.base⟩
end
theorem range_get (L : List Int) : (List.range L.length).map (fun i => L.getD i 0) = L := by
  apply List.ext_getElem?
  intro i
  rw [List.getElem?_map]
  by_cases hi : i < L.length
  · rw [List.getElem?_range hi, List.getElem?_eq_getElem hi]
    simp [hi]
  · rw [List.getElem?_eq_none (by simp; omega), List.getElem?_eq_none (by omega)]
    rfl
set_option maxRecDepth 100000 in
set_option maxHeartbeats 8000000 in
theorem firstMisled_any (u : Value) (k : Kx) (r : Rw) (Am : Option Addr) (cm : Nat) (st : List Int) (w : World) (hu : KyV w u k) (hm : InSl w w.heap.size (.slice Am r.may.length cm) r.may) (hk : KSm k) (hok : KOk st k) (hss : r.may.length = st.length) (hn0 : 0 < st.length) (hl : leavesF k.lv = true) :
    Calls Tryz.prog 29 #[u, .agg #[.int .i64 r.nm, .slice Am r.may.length cm]] w fun e w' => (∃ v, e = .returned v ∧ Fr w.heap.size w' v (firstF k r)) ∧ Below w.heap.size w w' := by
  obtain ⟨A1, c1, A2, c2, W0, rfl, hW0, hb0, hK, hNd, hV, hX⟩ := ky_box hu
  have hz : W0.heap.size = w.heap.size + 1 := by rw [← hW0]; simp
  have hb1 := below_new (w := W0) (.cells #[.int .i64 r.nm, .slice Am r.may.length cm] 58)
  have hn1 := World.alloc_heap_new W0 (.cells #[.int .i64 r.nm, .slice Am r.may.length cm] 58)
  obtain ⟨W1, hW1⟩ : ∃ W, W0.alloc (.cells #[.int .i64 r.nm, .slice Am r.may.length cm] 58) = W := ⟨_, rfl⟩
  rw [hW1, hz] at hn1
  rw [hW1] at hb1
  have HW := Lib.hid (And.intro hW0 hW1)
  have hB1 := hb0.trans (hb1.mono hb0.size)
  have HB1 := Lib.hid hB1
  have HM := Lib.hid (fun Y (h : Below W1.heap.size W1 Y) => hm.step (hB1.trans (h.mono hB1.size)))
  have HX := Lib.hid (fun Y (h : Below W1.heap.size W1 Y) => And.intro (hX Y (hb1.trans (h.mono hb1.size))) (cells_two ((h.block _ (Array.getElem?_eq_some_iff.1 hn1).1).trans hn1)))
  have HMi := Lib.hid (fun Y (h : Below W1.heap.size W1 Y) (v : Value) (L : List Int) (hv : InSl Y Y.heap.size v L) (hL : L.length = r.may.length) => misleads_any _ v k r.nm L st Y (hK Y (hb1.trans (h.mono hb1.size))) hv hk hok (by rw [hL]; exact hss) hl (by have := reach_len (seen := L) hok (leaves_nms hl).1; have := hk.2.1; omega))
  have HC := Lib.hid (clone_any _ r.may W1 (hm.step hB1) (by have := hok.len; omega))
  have hn1000 : r.may.length ≤ 64 := by have := hok.len; omega
  have hn00 : 0 < r.may.length := by omega
  have HFi := Lib.hid (show firstF k r = (List.range r.may.length).map (fmS k r r.may.length).2 from rfl)
  rw [HFi.out]
  obtain ⟨n, hn⟩ : ∃ n, r.may.length = n := ⟨_, rfl⟩
  have HN := Lib.hid hn
  have HS0 := Lib.hid (show fmS k r 0 = (fun i => r.may.getD i 0, fun _ => 0) from rfl)
  have HSn := Lib.hid (fun c => show fmS k r (c + 1) = fmI k r.nm n (r.may.getD c 0) c 16 0 (fmS k r c).1 (fmS k r c).2 from by rw [← hn]; rfl)
  obtain ⟨⟨k0, k1⟩, k2, k3⟩ := HX.out W1 (Below.refl _ _)
  rw [hn] at HW HX HM HC hn1000 hn00 k3
  rw [hn]
  simp only [hn] at HMi
  generalize k.nd.length = nn at *
  generalize k.lv.length = nl at *
  clear hu hm hk hok hss hn0 hl hW0 hb0 hK hNd hV hX hz hb1 hn1 hW1 hB1 HFi
  go_enter Tryz.func29, Tryz.ntmps29
  go_wp2_with fail
  rw [HW.out.1, HW.out.2]
  (try go_wp2_with fail)
  (with_reducible refine HC.out.mono ?_)
  rintro e w1 ⟨sv, rfl, hO⟩
  have hO2 := hO.iwc (by rw [HN.out]; exact hn00)
  rw [HN.out] at hO2
  obtain ⟨gs, cs, rfl, hcs, hcm, hI⟩ := hO2
  have HCs := Lib.hid (And.intro hcs hcm)
  have HI := Lib.hid hI
  have hn1m : n ≤ 1000000 := by omega
  clear hO k0 k1 k2 k3 HC hI hcs hcm hn
  obtain ⟨⟨k0, k1⟩, k2, k3⟩ := HX.out w1 HI.out.bel
  go_wp2_with (refine wpList_make_ints rfl _ _ rfl n rfl rfl hn1m ?_; intro ca hca1 hca2; have HP0 := Lib.hid (IwI.start (W := w1) hca1 hca2); have hV0 := below_new (w := w1) (.cells ca 3); have HV0 := Lib.hid hV0; clear k0 k1 k2 k3; obtain ⟨⟨k0, k1⟩, k2, k3⟩ := HX.out _ (HI.out.bel.trans (hV0.mono HI.out.bel.size)); clear hca1 hca2 hV0)
  obtain ⟨V, hV⟩ : ∃ V, w1.alloc (.cells ca 3) = V := ⟨_, rfl⟩
  rw [hV] at k0 k1 k2 k3 HP0 HV0 ⊢
  have hgp : gs < w1.heap.size := HI.out.lt
  obtain ⟨gp, hgpe⟩ : ∃ gp, w1.heap.size = gp := ⟨_, rfl⟩
  have HB2 := Lib.hid HI.out.bel
  have HI0 := Lib.hid (HI.out.step HV0.out)
  have HP1 := Lib.hid (HP0.out.low HI.out.bel)
  rw [hgpe] at HP1 hgp ⊢
  have HGp := Lib.hid (show gs ≠ gp from by omega)
  clear hgp hgpe hV k0 k1 k2 k3
  have HMay := Lib.hid (fun Y (h : Below W1.heap.size W1 Y) => show InA Y Y.heap.size Am r.may from by obtain ⟨_, _, e, _, _, h⟩ := HM.out Y h; cases e; exact h)
  go_loopw [19] (fun iv wr => ∃ c : Nat, iv = .int .i64 (c : Int) ∧ c ≤ n ∧ IwC W1 gs n (fmS k r c).1 wr ∧ IwI W1 gp n (fmS k r c).2 wr) (fun iv _ => n - (intOf iv).toNat)
  case atStart => exact ⟨0, rfl, by omega, by rw [HS0.out]; exact HI0.out, by rw [HS0.out]; exact HP1.out⟩
  case round =>
    obtain ⟨c, rfl, hcn, hi, hp⟩ := hrel
    have HIc := Lib.hid hi
    have HPc := Lib.hid hp
    clear hi hp
    by_cases hlt : c < n
    · obtain ⟨may, ad, hmy, rfl, _, hcm⟩ := (HMay.out wr HIc.out.bel).at_ HN.out hlt
      have HTg := Lib.hid (show fmS k r (c + 1) = fmI k r.nm n may c 16 0 (fmS k r c).1 (fmS k r c).2 from by rw [HSn.out c, show r.may.getD c 0 = may from by rw [List.getD_eq_getElem?_getD, hmy]; rfl])
      obtain ⟨tg, htg⟩ : ∃ tg, fmS k r (c + 1) = tg := ⟨_, rfl⟩
      rw [htg] at HTg
      have HTe := Lib.hid htg
      obtain ⟨f0, hf0⟩ : ∃ f, (fmS k r c).1 = f := ⟨_, rfl⟩
      obtain ⟨g0, hg0⟩ : ∃ f, (fmS k r c).2 = f := ⟨_, rfl⟩
      rw [hf0] at HIc HTg
      rw [hg0] at HPc HTg
      clear hmy htg hf0 hg0
      go_wp2_with fail
      go_loopw [24] (fun jv wq => ∃ (s : Nat) (f : Nat → Int), jv = .int .i64 (s : Int) ∧ s ≤ 16 ∧ IwC W1 gs n f wq ∧ IwI W1 gp n g0 wq ∧ tg = fmI k r.nm n may c (16 - s) s f g0) (fun jv _ => 16 - (intOf jv).toNat)
      case atStart => exact ⟨0, f0, rfl, by omega, HIc.out, HPc.out, HTg.out⟩
      case round =>
        obtain ⟨s, f, rfl, hs16, hi, hp, ht⟩ := hrel
        have HIs := Lib.hid hi
        have HPs := Lib.hid hp
        have HTs := Lib.hid ht
        clear hi hp ht hcm
        by_cases hlt2 : s < 16
        · have HSo := Lib.hid (setOf_any s wr hlt2)
          obtain ⟨z, hz⟩ : ∃ z, bits BinOp.and IntKind.i64 may (2 ^ s) = z := ⟨_, rfl⟩
          have HZ := Lib.hid (show meetF may (2 ^ s) = z from hz)
          have c0 := HIs.out.cell hlt
          have cf := HIs.out.froz c
          have hset := HIs.out.set c z
          obtain ⟨V2, hV2⟩ : ∃ V, wr.setCell ⟨gs, c, none⟩ (.int .i64 z) = V := ⟨_, rfl⟩
          have HV2 := Lib.hid hV2
          rw [hV2] at hset
          have c1' := hset.cell hlt
          rw [upd_same] at c1'
          have HI2 := Lib.hid hset
          have HP2 := Lib.hid (show IwI W1 gp n g0 V2 from by rw [← hV2]; exact HPs.out.kept (setCell_grown' wr gs c _) (fun r e => by cases e; exact ⟨HIs.out.base, HGp.out⟩))
          have HTa := Lib.hid (show tg = fmI k r.nm n may c ((15 - s) + 1) s f g0 from by rw [HTs.out, show 16 - s = 15 - s + 1 from by omega])
          clear hset hV2
          by_cases h0 : z = 0
          · subst h0
            have HM2 := Lib.hid (HTa.out.trans (fmI_miss HZ.out (.inl rfl)))
            go_wp2_with fail
            (with_reducible refine HSo.out.mono ?_)
            rintro e w4 ⟨rfl, rfl⟩
            go_wp2_with fail
            go_roundw
            case rel => exact ⟨s + 1, _, by go_num, by omega, by rw [HV2.out]; exact HI2.out, by rw [HV2.out]; exact HP2.out, by rw [HM2.out, show 16 - (s + 1) = 15 - s from by omega]⟩
            case measure => simp [intOf]; try omega
          · have HMs := Lib.hid (HMi.out V2 HI2.out.bel _ _ (HI2.out.sl HCs.out.1 HCs.out.2) (by rw [List.length_map, List.length_range]))
            obtain ⟨b, hb⟩ : ∃ b, misF k r.nm ((List.range n).map (updP f c z)) = b := ⟨_, rfl⟩
            rw [hb] at HMs
            have HBb := Lib.hid hb
            obtain ⟨⟨k0, k1⟩, k2, k3⟩ := HX.out (wr.setCell ⟨gs, c, none⟩ (.int .i64 z)) (by rw [HV2.out]; exact HI2.out.bel)
            have hne : (z != 0) = true := by simpa using h0
            clear hb
            go_wp2_with fail
            (with_reducible refine HSo.out.mono ?_)
            rintro e w4 ⟨rfl, rfl⟩
            go_wp2_with fail
            rw [HV2.out]
            (with_reducible refine HMs.out.mono ?_)
            rintro e w5 ⟨rfl, hb⟩
            have HB5 := Lib.hid hb
            clear hb k0 k1 k2 k3 c0 cf c1' HMs HSo
            cases b with
            | false =>
              have HM2 := Lib.hid (HTa.out.trans (fmI_miss HZ.out (.inr HBb.out)))
              go_wp2_with fail
              go_roundw
              case rel => exact ⟨s + 1, _, by go_num, by omega, HI2.out.step HB5.out, HP2.out.step HB5.out, by rw [HM2.out, show 16 - (s + 1) = 15 - s from by omega]⟩
              case measure => simp [intOf]; try omega
            | true =>
              have HM2 := Lib.hid (HTa.out.trans (fmI_hit HZ.out h0 HBb.out))
              have HP5 := Lib.hid (HP2.out.step HB5.out)
              have p0 := HP5.out.cell hlt
              have pf := HP5.out.froz c
              have HP6 := Lib.hid (HP5.out.set c (s : Int))
              have HI6 := Lib.hid ((HI2.out.step HB5.out).kept (setCell_grown' w5 gp c (.int .i64 (s : Int))) (fun r e => by cases e; exact ⟨HP5.out.base, Ne.symm HGp.out⟩))
              go_wp2_with fail
              go_roundw
              case rel => exact ⟨c + 1, by go_num, by omega, by rw [HTe.out, HM2.out]; exact HI6.out, by rw [HTe.out, HM2.out]; exact HP6.out⟩
              case measure => simp [intOf]; try omega
        · obtain rfl : s = 16 := by omega
          have HM2 := Lib.hid (show tg = (f, g0) from HTs.out)
          go_wp2_with fail
          go_roundw
          case rel => exact ⟨c + 1, by go_num, by omega, by rw [HTe.out, HM2.out]; exact HIs.out, by rw [HTe.out, HM2.out]; exact HPs.out⟩
          case measure => simp [intOf]; try omega
    · obtain rfl : n = c := by omega
      have HSl := Lib.hid (HPc.out.sl (by omega) (L := (List.range n).map (fmS k r n).2) (by rw [List.length_map, List.length_range]) (fun i x hx => by
        have hi : i < n := by have := (List.getElem?_eq_some_iff.1 hx).1; simpa using this
        rw [List.getElem?_map, List.getElem?_range hi] at hx
        simpa using hx))
      go_wp2_with fail
      go_ret
      refine ⟨⟨_, rfl, HSl.out, fun g e => ?_⟩, HB1.out.trans (HPc.out.bel.mono HB1.out.size)⟩
      have : gp = g := by simpa [Value.ownBlock] using e
      subst this
      exact ⟨Nat.le_trans HB1.out.size HPc.out.base, HPc.out.lt⟩
end Go.Proofs.YthfegbcbpeedbaaGreatDoor
namespace Go.Ky
open Go.Nm
def rightE (m : Mx) (k : Kx) : Int := if wrongE m k = 3 then 0 else wrongE m k
theorem ck_cases (m : Mx) (k : Kx) : ckE m k = 0 ∨ ckE m k = 30 ∨ ckE m k = 31 := by
  unfold ckE
  split
  · split
    · exact .inl rfl
    · exact .inr (.inr rfl)
  · exact .inr (.inl rfl)
theorem wrong_cases (m : Mx) (k : Kx) : wrongE m k = 0 ∨ wrongE m k = 3 ∨ wrongE m k = 30 ∨ wrongE m k = 31 := by
  unfold wrongE
  split
  · split
    · exact .inl rfl
    · exact .inr (.inl rfl)
  · rcases ck_cases m k with h | h | h
    · exact .inl h
    · exact .inr (.inr (.inl h))
    · exact .inr (.inr (.inr h))
end Go.Ky
namespace Go.Proofs.YthfegbcbpeedbaaGreatDoor
open Go.RowKit Go.Nm Go.Ky

structure RwI (V : World) (p0 nv kv rv : Value) (S : Value → World → Prop) (dn : Nat → Bool) (val : Nat → Value) (X : World) : Prop where
  s0 : dn 0 = true → val 0 = p0
  s1 : dn 1 = true → val 1 = nv
  s2 : dn 2 = true → val 2 = kv
  s3 : dn 3 = true → val 3 = rv
  s5 : dn 5 = true → val 5 = nv
  s7 : dn 7 = true → val 7 = .int .i64 0
  bel : dn 4 = false → Below V.heap.size V X
  e4 : dn 4 = true → S (val 4) X
  e6 : dn 6 = true → dn 4 = true ∧ val 6 = val 4
section
variable {V : World} {p0 nv kv rv : Value} {S : Value → World → Prop} {dn : Nat → Bool} {val : Nat → Value} {X Y : World}
theorem RwI.op0 (h : RwI V p0 nv kv rv S dn val X) : RwI V p0 nv kv rv S (andB dn 0) (updV val 0 (p0)) X :=
  ⟨(fun _ => rfl), h.s1, h.s2, h.s3, h.s5, h.s7, h.bel, h.e4, h.e6⟩
theorem RwI.op1 (h : RwI V p0 nv kv rv S dn val X) : RwI V p0 nv kv rv S (andB dn 1) (updV val 1 (nv)) X :=
  ⟨h.s0, (fun _ => rfl), h.s2, h.s3, h.s5, h.s7, h.bel, h.e4, h.e6⟩
theorem RwI.op2 (h : RwI V p0 nv kv rv S dn val X) : RwI V p0 nv kv rv S (andB dn 2) (updV val 2 (kv)) X :=
  ⟨h.s0, h.s1, (fun _ => rfl), h.s3, h.s5, h.s7, h.bel, h.e4, h.e6⟩
theorem RwI.op3 (h : RwI V p0 nv kv rv S dn val X) : RwI V p0 nv kv rv S (andB dn 3) (updV val 3 (rv)) X :=
  ⟨h.s0, h.s1, h.s2, (fun _ => rfl), h.s5, h.s7, h.bel, h.e4, h.e6⟩
theorem RwI.op5 (h : RwI V p0 nv kv rv S dn val X) : RwI V p0 nv kv rv S (andB dn 5) (updV val 5 (nv)) X :=
  ⟨h.s0, h.s1, h.s2, h.s3, (fun _ => rfl), h.s7, h.bel, h.e4, h.e6⟩
theorem RwI.op7 (h : RwI V p0 nv kv rv S dn val X) : RwI V p0 nv kv rv S (andB dn 7) (updV val 7 (.int .i64 0)) X :=
  ⟨h.s0, h.s1, h.s2, h.s3, h.s5, (fun _ => rfl), h.bel, h.e4, h.e6⟩
theorem RwI.op4 (h : RwI V p0 nv kv rv S dn val X) (n6 : dn 6 = false) {v : Value} (hS : S v Y) : RwI V p0 nv kv rv S (andB dn 4) (updV val 4 (v)) (Y) :=
  ⟨h.s0, h.s1, h.s2, h.s3, h.s5, h.s7, (fun n => nomatch n), (fun _ => hS), (fun d => f_t n6 d)⟩
theorem RwI.op6 (h : RwI V p0 nv kv rv S dn val X) (y4 : dn 4 = true) : RwI V p0 nv kv rv S (andB dn 6) (updV val 6 (val 4)) (X) :=
  ⟨h.s0, h.s1, h.s2, h.s3, h.s5, h.s7, h.bel, h.e4, (fun _ => ⟨y4, rfl⟩)⟩
end
section
variable {o : Oper} {a : Act} {w : World} {K : Act → World → Prop} {Q : Exit → Act → World → Prop}
set_option maxRecDepth 100000 in
theorem opLdRow (q g : Nat) (v1 v2 : Value) (ho : o.op = .load 58 (.tmp q)) (hq : a.tmps.getD q undef = .pointer (some ⟨g, 0, none⟩)) (hg : w.heap[g]? = some (.cells #[v1, v2] 58)) (h : K (a.put o.dst (.agg #[v1, v2])) w) : o.wp Tryz.prog a w K Q := by
  unfold Oper.wp execOp
  have he : a.eval (.tmp q) = .pointer (some ⟨g, 0, none⟩) := hq
  obtain ⟨c0, c1⟩ := cells_two hg
  simp only [ho, he]
  go_simp
  exact h
set_option maxRecDepth 100000 in
theorem opCallFm (q r : Nat) (v1 v2 : Value) (R : Ending → World → Prop) (ho : o.op = .call { callee := .value (.func 29), args := #[.tmp q, .tmp r], argTypes := #[29, 58] }) (h1 : a.tmps.getD q undef = v1) (h2 : a.tmps.getD r undef = v2)
    (hc : Calls Tryz.prog 29 #[v1, v2] w R) (h : ∀ e w', R e w' → ∃ v, e = .returned v ∧ K (a.put o.dst v) w') : o.wp Tryz.prog a w K Q := by
  unfold Oper.wp execOp
  have e1 : a.eval (.tmp q) = v1 := h1
  have e2 : a.eval (.tmp r) = v2 := h2
  simp only [ho]
  go_simp
  refine hc.mono ?_
  intro e w' hR
  obtain ⟨v, rfl, hK⟩ := h e w' hR
  exact hK
end
set_option maxRecDepth 100000 in
set_option maxHeartbeats 8000000 in
theorem Wrong_any (v u : Value) (m : Mx) (k : Kx) (w : World) (hv : MxV w v m) (hs : MSm m) (hu : KyV w u k) (hk : KSm k) :
    Calls Tryz.prog 9 #[v, u] w fun e w' => (∃ x, e = .returned (.tuple #[.int .i64 (wrongN m k), x, .int .i64 (wrongE m k)]) ∧ Fr w.heap.size w' x (wrongL m k)) ∧ Below w.heap.size w w' := by
  obtain ⟨A1, c1, A2, c2, W0, rfl, hW0, hb0, hM, hS, hR, hX⟩ := mx_box hv
  have hz : W0.heap.size = w.heap.size + 1 := by rw [← hW0]; simp
  obtain ⟨B1, d1, B2, d2, W1, rfl, hW1, hb1, hK, hNd, hV, hX1⟩ := ky_box (hu.step hb0)
  have hn1 : W1.heap[w.heap.size + 1]? = some (.cells #[.slice B1 k.nd.length d1, .slice B2 k.lv.length d2] 29) := by rw [← hW1, ← hz]; exact World.alloc_heap_new W0 _
  rw [hz] at hX1
  have HW := Lib.hid (And.intro hW0 hW1)
  have HB1 := Lib.hid (hb0.trans (hb1.mono hb0.size))
  have HX := Lib.hid (fun Y (h : Below W1.heap.size W1 Y) => And.intro (And.intro (hX Y (hb1.trans (h.mono hb1.size))) (hX1 Y h)) ((h.block _ (Array.getElem?_eq_some_iff.1 hn1).1).trans hn1))
  have HC := Lib.hid (CheckKey_any _ _ m k W1 (hM W1 hb1) hs (hK W1 (Below.refl _ _)) hk)
  have HFd := Lib.hid (fun (hc : ckE m k = 0) Y (h : Below W1.heap.size W1 Y) => findWr_any (w.heap.size + 1) (fun r => misF k r.nm r.may) _ m.rows Y (hR Y (hb1.trans (h.mono hb1.size))) (by have := hs.2.1; omega) (fun X hX r Am cm hr hm => wrong1_any (w.heap.size + 1) r Am cm k m.st B1 B2 d1 d2 X ((((h.trans (hX.mono h.size))).block _ (Array.getElem?_eq_some_iff.1 hn1).1).trans hn1) (hK X (h.trans (hX.mono h.size))) hm hk (ck_ok hc).2.2 (sets_len' ((mx_all (ck_ok hc).1).2.2 r hr)) (ck_ok hc).2.1))
  have HFm := Lib.hid (fun (hc : ckE m k = 0) Y (h : Below W1.heap.size W1 Y) (r : Rw) (Am : Option Addr) (cm : Nat) (hr : r ∈ m.rows) (hm : InSl Y Y.heap.size (.slice Am r.may.length cm) r.may) => firstMisled_any _ k r Am cm m.st Y (hK Y h) hm hk (ck_ok hc).2.2 (sets_len' ((mx_all (ck_ok hc).1).2.2 r hr)) (chr_ok (mx_all (ck_ok hc).1).1).1 (ck_ok hc).2.1)
  have HE := Lib.hid (show wrongE m k = (if ckE m k = 0 then (if (wrongR m k).isSome = true then 0 else 3) else ckE m k) ∧ wrongN m k = (if wrongE m k = 0 then ((wrongR m k).getD ⟨0, []⟩).nm else 0) ∧ wrongL m k = (if wrongE m k = 0 then firstF k ((wrongR m k).getD ⟨0, []⟩) else []) ∧ wrongR m k = m.rows.find? (fun r => misF k r.nm r.may) from ⟨rfl, rfl, rfl, rfl⟩)
  have HCk := Lib.hid (ck_cases m k)
  obtain ⟨ce, hce⟩ : ∃ c, ckE m k = c := ⟨_, rfl⟩
  obtain ⟨we, hwe⟩ : ∃ c, wrongE m k = c := ⟨_, rfl⟩
  obtain ⟨wn, hwn⟩ : ∃ c, wrongN m k = c := ⟨_, rfl⟩
  obtain ⟨wl, hwl⟩ : ∃ c, wrongL m k = c := ⟨_, rfl⟩
  rw [hce] at HC HFd HFm HE HCk
  rw [hwe, hwn, hwl] at HE
  rw [hwe, hwn, hwl]
  obtain ⟨⟨⟨k0, k1⟩, k2, k3⟩, _⟩ := HX.out W1 (Below.refl _ _)
  have hz1 : w.heap.size + 2 ≤ W1.heap.size := by rw [← hW1]; simp [hz]
  generalize k.nd.length = n at *
  generalize k.lv.length = nl at *
  generalize m.st.length = ns at *
  generalize m.rows.length = nr at *
  clear hv hu hs hk hW0 hb0 hM hS hR hX hz hW1 hb1 hK hNd hV hX1 hce hwe hwn hwl hn1
  go_enter Tryz.func9, Tryz.ntmps9
  go_wp2_with fail
  rw [HW.out.1, HW.out.2]
  (try go_wp2_with fail)
  (with_reducible refine HC.out.mono ?_)
  rintro e w1 ⟨rfl, hb⟩
  have HB2 := Lib.hid hb
  clear k0 k1 k2 k3 HC hb
  obtain ⟨⟨⟨k0, k1⟩, k2, k3⟩, _⟩ := HX.out w1 HB2.out
  have bad : ∀ z : Int, ce = z → z ≠ 0 → we = z ∧ wn = 0 ∧ wl = [] := fun z h h0 => by
    have h1 : we = z := by rw [HE.out.1, h, if_neg h0]
    exact ⟨h1, by rw [HE.out.2.1, h1, if_neg h0], by rw [HE.out.2.2.1, h1, if_neg h0]⟩
  rcases HCk.out with h0 | h0 | h0
  rotate_left
  · subst h0
    have HF := Lib.hid (bad 30 rfl (by decide))
    clear bad HFd HFm HE HCk
    go_wp2_with fail
    refine bodyPost_ret (v := .tuple #[.int .i64 0, .slice none 0 0, .int .i64 30]) (by simp [results, Tryz.results9, go_sem]) rfl ?_
    exact ⟨⟨_, by rw [HF.out.1, HF.out.2.1], by rw [HF.out.2.2]; exact Fr.nil _ _⟩, HB1.out.trans (HB2.out.mono HB1.out.size)⟩
  · subst h0
    have HF := Lib.hid (bad 31 rfl (by decide))
    clear bad HFd HFm HE HCk
    go_wp2_with fail
    refine bodyPost_ret (v := .tuple #[.int .i64 0, .slice none 0 0, .int .i64 31]) (by simp [results, Tryz.results9, go_sem]) rfl ?_
    exact ⟨⟨_, by rw [HF.out.1, HF.out.2.1], by rw [HF.out.2.2]; exact Fr.nil _ _⟩, HB1.out.trans (HB2.out.mono HB1.out.size)⟩
  · subst h0
    have HFd1 := Lib.hid (HFd.out rfl w1 HB2.out)
    have HFm1 := Lib.hid (HFm.out rfl)
    clear bad HFd HFm HCk
    go_wp2_with fail
    (with_reducible refine HFd1.out.mono ?_)
    rintro e w2 ⟨hR, hb⟩
    have HB3 := Lib.hid (HB2.out.trans (hb.mono HB2.out.size))
    clear hb k0 k1 k2 k3 HFd1
    rcases hR with ⟨r, Am, cm, hf, rfl, hi⟩ | ⟨hf, rfl⟩
    · have HF := Lib.hid (show we = 0 ∧ wn = r.nm ∧ wl = firstF k r from by
        have h1 : we = 0 := by rw [HE.out.1, HE.out.2.2.2, hf]; rfl
        exact ⟨h1, by rw [HE.out.2.1, h1, if_pos rfl, HE.out.2.2.2, hf]; rfl, by rw [HE.out.2.2.1, h1, if_pos rfl, HE.out.2.2.2, hf]; rfl⟩)
      have HMr := Lib.hid (List.mem_of_find?_eq_some hf)
      have hbV := below_new (w := w2) (.cells #[.int .i64 r.nm, .slice Am r.may.length cm] 58)
      have hnV := World.alloc_heap_new w2 (.cells #[.int .i64 r.nm, .slice Am r.may.length cm] 58)
      have HIm := Lib.hid (hi.step hbV)
      have HBV := Lib.hid (HB3.out.trans (hbV.mono HB3.out.size))
      have HNV := Lib.hid hnV
      obtain ⟨V, hV⟩ : ∃ V, w2.alloc (.cells #[.int .i64 r.nm, .slice Am r.may.length cm] 58) = V := ⟨_, rfl⟩
      have HV := Lib.hid hV
      obtain ⟨rl, hrl⟩ : ∃ x, r.may.length = x := ⟨_, rfl⟩
      have HRl := Lib.hid hrl
      rw [hV] at HIm HBV HNV
      rw [hrl] at HV HIm HNV ⊢
      clear hf hi hbV hnV hV hrl
      go_wp2_with fail
      rw [HV.out]
      refine wp_opaque ?_
      intro t0 ht0
      have hsz0 : t0.size = 30 := by rw [ht0]; rfl
      have q3 : t0.getD 3 undef = .pointer (some ⟨w.heap.size + 1, 0, none⟩) := by rw [ht0]; rfl
      have q8 : t0.getD 8 undef = .pointer (some ⟨w2.heap.size, 0, none⟩) := by rw [ht0]; rfl
      have HT0 := Lib.hid ht0
      clear ht0
      have HBd := Lib.hid (fun X (hI : Below V.drew.heap.size V.drew X) => (Below.refl V.heap.size V).drew.trans hI)
      have HY := Lib.hid (fun X (h : Below V.heap.size V X) => And.intro (HX.out X (HBV.out.trans (h.mono HBV.out.size))).2 ((h.block _ (Array.getElem?_eq_some_iff.1 HNV.out).1).trans HNV.out))
      refine wp_region_vals [some 25, some 26, some 27, some 28, some 29, some 4, some 5, some 6] (RwI V.drew (.pointer (some ⟨w2.heap.size, 0, none⟩)) (.int .i64 r.nm) (.agg #[.slice B1 n d1, .slice B2 nl d2]) (.agg #[.int .i64 r.nm, .slice Am rl cm]) (fun u X => Fr w.heap.size X u (firstF k r) ∧ Below w.heap.size w X ∧ X.heap[w2.heap.size]? = some (.cells #[.int .i64 r.nm, .slice Am rl cm] 58))) (by kernel_rfl) (by kernel_rfl) rfl rfl (by simp [hsz0]) (by kernel_rfl) ?_ ?_ ?_
      · intro val
        exact ⟨(fun h => nomatch h), (fun h => nomatch h), (fun h => nomatch h), (fun h => nomatch h), (fun h => nomatch h), (fun h => nomatch h), fun _ => Below.refl _ _, (fun h => nomatch h), (fun h => nomatch h)⟩
      · intro dn q o hi hd hp hc val X a ha hn hI K hK
        have hq : q < 8 := by
          have := (Array.getElem?_eq_some_iff.1 hi).1
          simpa using this
        have k4 : dn 4 = true → dn 2 = true ∧ dn 3 = true := fun h => ⟨hc 4 _ rfl h ⟨2, .data⟩ (by simp) rfl, hc 4 _ rfl h ⟨3, .data⟩ (by simp) rfl⟩
        have k6 : dn 6 = true → dn 4 = true := fun h => hc 6 _ rfl h ⟨4, .data⟩ (by simp) rfl
        have bf : ∀ {q : Bool}, (q = true → False) → q = false := fun {q} h => by cases q; rfl; exact (h rfl).elim
        have hB : Below V.heap.size V X ∨ dn 4 = true := by
          cases h4 : dn 4 with
          | false => exact .inl (HBd.out X (hI.bel h4))
          | true => exact .inr rfl
        rcases (show q = 0 ∨ q = 1 ∨ q = 2 ∨ q = 3 ∨ q = 4 ∨ q = 5 ∨ q = 6 ∨ q = 7 by omega) with rfl | rfl | rfl | rfl | rfl | rfl | rfl | rfl
        · obtain rfl := Option.some.inj hi
          exact opFieldR 0 8 _ (by decide) rfl ((ha 8).trans q8) (hK _ _ hI.op0)
        · obtain rfl := Option.some.inj hi
          have y0 := hp ⟨0, .data⟩ (by simp) rfl
          have hc0 : X.cell? ⟨w2.heap.size, 0, none⟩ = some (.int .i64 r.nm) := by
            rcases hB with h | h
            · exact (cells_two (HY.out X h).2).1
            · exact (cells_two (hI.e4 h).2.2).1
          exact opLd 25 _ _ rfl ((ha 25).trans (hI.s0 y0)) hc0 (hK _ _ hI.op1)
        · obtain rfl := Option.some.inj hi
          have n4 : dn 4 = false := bf fun h => f_t hd (k4 h).1
          exact opLdKey 3 _ _ _ rfl ((ha 3).trans q3) (HY.out X (HBd.out X (hI.bel n4))).1 (hK _ _ hI.op2)
        · obtain rfl := Option.some.inj hi
          have n4 : dn 4 = false := bf fun h => f_t hd (k4 h).2
          exact opLdRow 8 _ _ _ rfl ((ha 8).trans q8) (HY.out X (HBd.out X (hI.bel n4))).2 (hK _ _ hI.op3)
        · obtain rfl := Option.some.inj hi
          have y2 := hp ⟨2, .data⟩ (by simp) rfl
          have y3 := hp ⟨3, .data⟩ (by simp) rfl
          have n6 : dn 6 = false := bf fun h => f_t hd (k6 h)
          have hB4 := HBd.out X (hI.bel hd)
          have hBX := HBV.out.trans (hB4.mono HBV.out.size)
          have hcl := HFm1.out X hBX r Am cm HMr.out (by rw [HRl.out]; exact HIm.out.step hB4)
          rw [HRl.out] at hcl
          refine opCallFm 27 28 _ _ _ rfl ((ha 27).trans (hI.s2 y2)) ((ha 28).trans (hI.s3 y3)) hcl ?_
          rintro e Y ⟨⟨u, rfl, hF⟩, hb⟩
          have hsz := Nat.le_trans HB1.out.size hBX.size
          exact ⟨u, rfl, hK _ _ (hI.op4 n6 ⟨hF.low hsz, HB1.out.trans ((hBX.trans (hb.mono hBX.size)).mono HB1.out.size), (hb.block _ (Array.getElem?_eq_some_iff.1 (HY.out X hB4).2).1).trans (HY.out X hB4).2⟩)⟩
        · obtain rfl := Option.some.inj hi
          have y1 := hp ⟨1, .data⟩ (by simp) rfl
          exact opAssign 26 _ rfl ((ha 26).trans (hI.s1 y1)) (hK _ _ hI.op5)
        · obtain rfl := Option.some.inj hi
          have y4 := hp ⟨4, .data⟩ (by simp) rfl
          exact opAssign 29 _ rfl (ha 29) (hK _ _ (hI.op6 y4))
        · obtain rfl := Option.some.inj hi
          exact opAssignK _ rfl (hK _ _ hI.op7)
      · intro dn val X hdn hI
        have h4 := hI.e4 (hdn 4 (by simp))
        have h5 := hI.s5 (hdn 5 (by simp))
        have h6 := (hI.e6 (hdn 6 (by simp))).2
        have h7 := hI.s7 (hdn 7 (by simp))
        obtain ⟨A4, d4, e4, _⟩ := h4.1.1.form
        rw [e4] at h4 h6
        have HR := Lib.hid h4
        simp only [wrS, HT0.out]
        simp only [List.setIfInBounds_toArray, List.set_cons_succ, List.set_cons_zero]
        rw [h5, h6, h7]
        simp only [Exit.then]
        generalize (firstF k r).length = fl at *
        clear hdn hI h4 h5 h6 h7 e4 HT0 hsz0 q3 q8
        (try go_wp2_with fail)
        (try rw [Exit.noGoto_ret])
        refine bodyPost_ret (v := .tuple #[.int .i64 r.nm, .slice A4 fl d4, .int .i64 0]) (by simp [results, Tryz.results9, go_sem]) rfl ?_
        exact ⟨⟨_, by rw [HF.out.1, HF.out.2.1], by rw [HF.out.2.2]; exact HR.out.1⟩, HR.out.2.1⟩
    · have HF := Lib.hid (show we = 3 ∧ wn = 0 ∧ wl = [] from by
        have h1 : we = 3 := by rw [HE.out.1, HE.out.2.2.2, hf]; rfl
        exact ⟨h1, by rw [HE.out.2.1, h1]; rfl, by rw [HE.out.2.2.1, h1]; rfl⟩)
      have HB4 := Lib.hid (HB3.out.trans ((below_new (w := w2) (.cells #[.int .i64 0, .slice none 0 0] 58)).mono HB3.out.size))
      clear hf
      go_wp2_with fail
      refine bodyPost_ret (v := .tuple #[.int .i64 0, .slice none 0 0, .int .i64 3]) (by simp [results, Tryz.results9, go_sem]) rfl ?_
      exact ⟨⟨_, by rw [HF.out.1, HF.out.2.1], by rw [HF.out.2.2]; exact Fr.nil _ _⟩, HB1.out.trans (HB4.out.mono HB1.out.size)⟩
end Go.Proofs.YthfegbcbpeedbaaGreatDoor
