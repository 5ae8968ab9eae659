/- The reference: alone, decided. -/
import Derived.Test.YthfegbcbpeedbaaDoorKyPg
import Derived.Test.YthfegbcbpeedbaaDoorKyOz
namespace Go.Proofs.YthfegbcbpeedbaaDoor
open Go.RowKit Go.Nm Go.Ky

set_option maxRecDepth 100000 in
set_option maxHeartbeats 4000000 in
theorem IndexI_any (u : Value) (y : Int) (L : List Int) (w : World) (hu : InSl w w.heap.size u L) (hn : L.length ≤ 1000000) :
    Calls Tryd.prog 112 #[u, .int .i64 y] w fun e w' => (∃ k : Int, e = .returned (.int .i64 k) ∧ (decide (0 ≤ k) = L.any fun x => decide (x = y))) ∧ w = w' := by
  obtain ⟨A, c, rfl, _⟩ := hu.form
  have HA := Lib.hid (show InA w w.heap.size A L from by obtain ⟨_, _, e, _, _, h⟩ := hu; cases e; exact h)
  obtain ⟨n, h⟩ : ∃ n, L.length = n := ⟨_, rfl⟩
  have HN := Lib.hid h
  obtain ⟨r, hr⟩ : ∃ r, (L.any fun x => decide (x = y)) = r := ⟨_, rfl⟩
  have HR := Lib.hid hr
  rw [h] at hn ⊢
  rw [hr]
  clear hu h hr
  go_enter Tryd.func112, Tryd.ntmps112
  go_wp2_with fail
  go_loopw [8] (fun iv wr => ∃ i : Nat, iv = .int .i64 (i : Int) ∧ i ≤ n ∧ w = wr ∧ ∀ x ∈ L.take i, x ≠ y) (fun iv _ => n - (intOf iv).toNat)
  case atStart => exact ⟨0, rfl, by omega, rfl, fun x hx => by simp at hx⟩
  case round =>
    obtain ⟨i, rfl, hin, rfl, hg⟩ := hrel
    have HG := Lib.hid hg
    clear hg
    by_cases hlt : i < n
    · obtain ⟨x, ad, hx, rfl, _, hcx⟩ := HA.out.at_ HN.out hlt
      have HQ := Lib.hid hx
      clear hx
      by_cases h0 : y = x
      · have HF := Lib.hid (show r = true from by rw [← HR.out]; exact List.any_eq_true.2 ⟨x, List.mem_of_getElem? HQ.out, decide_eq_true h0.symm⟩)
        have hk : (0 : Int) ≤ (i : Int) := by omega
        go_wp2_with fail
        go_ret
        exact ⟨⟨_, rfl, by rw [HF.out]; exact decide_eq_true hk⟩, rfl⟩
      · have HT := Lib.hid (show ∀ z ∈ L.take (i + 1), z ≠ y from by
          intro z hz
          rw [List.take_add_one, HQ.out] at hz
          rcases List.mem_append.1 hz with h | h
          · exact HG.out z h
          · simp at h
            subst h
            exact fun e => h0 e.symm)
        go_wp2_with fail
        go_roundw
        case rel => exact ⟨i + 1, by go_num, by omega, by first | trivial | rfl, HT.out⟩
        case measure => simp [intOf]; omega
    · obtain rfl : n = i := by omega
      have HF := Lib.hid (show r = false from by
        rw [← HR.out, List.any_eq_false]
        intro x hx h
        rw [← List.take_of_length_le (Nat.le_of_eq HN.out)] at hx
        exact HG.out x hx (of_decide_eq_true h))
      go_wp2_with fail
      go_ret
      exact ⟨⟨_, rfl, by rw [HF.out]; rfl⟩, rfl⟩
set_option maxRecDepth 100000 in
set_option maxHeartbeats 4000000 in
theorem ContainsI_any (u : Value) (y : Int) (L : List Int) (w : World) (hu : InSl w w.heap.size u L) (hn : L.length ≤ 1000000) :
    Calls Tryd.prog 77 #[u, .int .i64 y] w fun e w' => e = .returned (.bool (L.any fun x => decide (x = y))) ∧ w = w' := by
  have HC := Lib.hid (IndexI_any u y L w hu hn)
  obtain ⟨r, hr⟩ : ∃ r, (L.any fun x => decide (x = y)) = r := ⟨_, rfl⟩
  rw [hr] at HC ⊢
  clear hr hu
  go_enter Tryd.func77, Tryd.ntmps77
  go_wp2_with fail
  (with_reducible refine HC.out.mono ?_)
  rintro e w1 ⟨⟨k, rfl, hk⟩, rfl⟩
  cases r with
  | true =>
    have h0 : (0 : Int) ≤ k := of_decide_eq_true hk
    go_wp2_with fail
    go_ret
    exact ⟨rfl, rfl⟩
  | false =>
    have h0 : ¬ (0 : Int) ≤ k := of_decide_eq_false hk
    go_wp2_with fail
    go_ret
    exact ⟨rfl, rfl⟩
/-- a row of two lists -/
theorem two_box {w : World} {v u : Value} {a b : List Int} (h : InSl w w.heap.size v a) (h' : InSl w w.heap.size u b) : VsSl (w.alloc (.cells #[v, u] 22)) (w.alloc (.cells #[v, u] 22)).heap.size (.slice (some ⟨w.heap.size, 0, none⟩) 2 2) [a, b] := by
  have hb := below_new (w := w) (.cells #[v, u] 22)
  have hn := World.alloc_heap_new w (.cells #[v, u] 22)
  refine ⟨_, 2, [v, u], rfl, ⟨rfl, fun i x L h1 h2 => ?_⟩, fun i x h1 => ⟨_, rfl, (Array.getElem?_eq_some_iff.1 hn).1, ?_⟩⟩
  · rcases (show i = 0 ∨ i = 1 by have := (List.getElem?_eq_some_iff.1 h1).1; simp at this; omega) with rfl | rfl
    · simp at h1 h2
      subst h1; subst h2
      exact h.step hb
    · simp at h1 h2
      subst h1; subst h2
      exact h'.step hb
  · rw [add_zero_k]
    simp only [World.cell?, hn]
    simpa using h1
theorem fits_any0 {a b : List Int} : ((List.zipWith meetF a b).any fun x => decide (x = 0)) = !(fitsF a b) := by
  rw [show fitsF a b = (List.zipWith meetF a b).all fun z => decide (z ≠ 0) from zip_all a b]
  generalize List.zipWith meetF a b = L
  induction L with
  | nil => rfl
  | cons x L ih =>
    rw [List.any_cons, List.all_cons, ih]
    by_cases hx : x = 0 <;> simp [hx]
set_option maxRecDepth 100000 in
set_option maxHeartbeats 8000000 in
theorem Both_any (v ua ub : Value) (m : Mx) (a b : List Int) (w : World) (hv : MxV w v m) (hs : MSm m) (hua : InSl w w.heap.size ua a) (hub : InSl w w.heap.size ub b) (hla : a.length ≤ 100000) (hlb : b.length ≤ 100000) :
    Calls Tryd.prog 30 #[v, ua, ub] w fun e w' => (∃ u, e = .returned (.tuple #[u, .int .i64 (bothE m a b)]) ∧ Fr w.heap.size w' u (bothL m a b)) ∧ Below w.heap.size w w' := by
  obtain ⟨A1, c1, A2, c2, W0, rfl, hW0, hb0, hM, hS, hR, hX⟩ := mx_box hv
  have hz : W0.heap.size = w.heap.size + 1 := by rw [← hW0]; simp
  have HB0 := Lib.hid hb0
  have HW0 := Lib.hid hW0
  have hua0 := hua.step hb0
  have hub0 := hub.step hb0
  obtain ⟨Ax, cx, rfl, _⟩ := hua0.form
  obtain ⟨Ay, cy, rfl, _⟩ := hub0.form
  have hb1 := below_new (w := W0) (.cells #[.slice Ax a.length cx, .slice Ay b.length cy] 22)
  have HB1 := Lib.hid hb1
  have HC := Lib.hid (checkSeen_any _ _ m [a, b] _ (hM _ hb1) hs (two_box hua0 hub0) (by intro L hL; simp at hL; rcases hL with rfl | rfl <;> omega) (by simp))
  have HCo := Lib.hid (fun (h : b.length = a.length) Y (hb : Below W0.heap.size W0 Y) => common_any _ _ a b Y (hua0.step hb) (hub0.step hb) h hla)
  have HCt := Lib.hid (fun u L Y (h : InSl Y Y.heap.size u L) (hn : L.length ≤ 1000000) => ContainsI_any u 0 L Y h hn)
  have HSe := Lib.hid (show seenE m [a, b] = 0 → b.length = a.length from fun h => by
    cases hm : mxF m with
    | false => rw [seenE_bad hm] at h; cases h
    | true =>
      rw [seen2 hm] at h
      split at h
      · rename_i h2; exact (sets_len h2.2).trans (sets_len h2.1).symm
      · cases h)
  have HSc := Lib.hid (show seenE m [a, b] = 0 ∨ seenE m [a, b] = 30 ∨ seenE m [a, b] = 32 from by
    unfold seenE; split
    · split <;> simp
    · simp)
  have HBd := Lib.hid (fun h : seenE m [a, b] ≠ 0 => both_bad h)
  have HNo := Lib.hid (fun (h : seenE m [a, b] = 0) (hf : fitsF a b = false) => both_no h hf)
  have HYe := Lib.hid (fun (h : seenE m [a, b] = 0) (hf : fitsF a b = true) => both_yes h hf)
  have HZw := Lib.hid (fun (h : b.length = a.length) => show (List.zipWith meetF a b).length = a.length from by rw [List.length_zipWith, h]; omega)
  obtain ⟨k0, k1⟩ := hX W0 (Below.refl _ _)
  obtain ⟨d0, d1⟩ := hX _ hb1
  obtain ⟨be, hbe⟩ : ∃ x, bothE m a b = x := ⟨_, rfl⟩
  obtain ⟨bl, hbl⟩ : ∃ x, bothL m a b = x := ⟨_, rfl⟩
  obtain ⟨se, hse⟩ : ∃ x, seenE m [a, b] = x := ⟨_, rfl⟩
  rw [hbe, hbl, hse] at HBd HNo HYe
  rw [hse] at HC HSe HSc
  rw [hz] at HC
  rw [hbe, hbl]
  generalize m.rows.length = nr at *
  generalize m.st.length = ns at *
  obtain ⟨na, hna⟩ : ∃ n, a.length = n := ⟨_, rfl⟩
  obtain ⟨nb, hnb⟩ : ∃ n, b.length = n := ⟨_, rfl⟩
  rw [hna] at HC HCo HSe hla HZw HB1 d0 d1
  rw [hnb] at HC HCo HSe hlb HZw HB1 d0 d1
  rw [hna, hnb]
  have HNa := Lib.hid (And.intro hna hnb)
  clear hv hs hua hub hua0 hub0 hW0 hb0 hM hS hR hX hbe hbl hse hna hnb hb1 hz
  go_enter Tryd.func30, Tryd.ntmps30
  go_wp2_with fail
  rw [HW0.out]
  (try go_wp2_with fail)
  (with_reducible refine HC.out.mono ?_)
  rintro e w1 ⟨rfl, hb⟩
  have HB2 := Lib.hid (HB1.out.trans (hb.mono HB1.out.size))
  clear hb k0 k1 d0 d1 HC HB1
  rcases HSc.out with rfl | rfl | rfl
  rotate_left
  · have HF := Lib.hid (HBd.out (by decide))
    go_wp2_with fail
    go_ret2
    exact ⟨⟨_, by rw [HF.out.1]; rfl, by rw [HF.out.2]; exact Fr.nil _ _⟩, HB0.out.trans (HB2.out.mono HB0.out.size)⟩
  · have HF := Lib.hid (HBd.out (by decide))
    go_wp2_with fail
    go_ret2
    exact ⟨⟨_, by rw [HF.out.1]; rfl, by rw [HF.out.2]; exact Fr.nil _ _⟩, HB0.out.trans (HB2.out.mono HB0.out.size)⟩
  · have hnn := HSe.out rfl
    subst hnn
    have HC2 := Lib.hid (HCo.out rfl w1 HB2.out)
    have HZl := Lib.hid (HZw.out rfl)
    clear HSe HCo HSc HBd HZw
    go_wp2_with fail
    (with_reducible refine HC2.out.mono ?_)
    rintro e w2 ⟨gw, f, rfl, hI, hf⟩
    have HI := Lib.hid hI
    have HSl := Lib.hid (hI.sl (by omega) (L := List.zipWith meetF a b) (by rw [HZl.out]) (fun k x hx => by
      rw [List.getElem?_zipWith] at hx
      cases ha : a[k]? with
      | none => rw [ha] at hx; simp at hx
      | some p =>
        cases hb : b[k]? with
        | none => rw [ha, hb] at hx; simp at hx
        | some q =>
          rw [ha, hb] at hx
          simp at hx
          rw [hf k p q ha hb, hx]))
    have HC3 := Lib.hid (HCt.out _ _ w2 HSl.out (by rw [HZl.out]; omega))
    rw [fits_any0] at HC3
    have HB3 := Lib.hid (HB2.out.trans (HI.out.bel.mono HB2.out.size))
    have HBs := Lib.hid (And.intro HI.out.base HI.out.lt)
    clear hI hf HC2 HCt HI
    cases hft : fitsF a b with
    | false =>
      rw [hft] at HC3
      have HF := Lib.hid (HNo.out (by first | trivial | rfl) hft)
      clear hft
      go_wp2_with fail
      (with_reducible refine HC3.out.mono ?_)
      rintro e w3 ⟨rfl, rfl⟩
      go_wp2_with fail
      go_ret2
      exact ⟨⟨_, by rw [HF.out.1]; rfl, by rw [HF.out.2]; exact Fr.nil _ _⟩, HB0.out.trans (HB3.out.mono HB0.out.size)⟩
    | true =>
      rw [hft] at HC3
      have HF := Lib.hid (HYe.out (by first | trivial | rfl) hft)
      clear hft
      go_wp2_with fail
      (with_reducible refine HC3.out.mono ?_)
      rintro e w3 ⟨rfl, rfl⟩
      go_wp2_with fail
      go_ret2
      exact ⟨⟨_, by rw [HF.out.1]; rfl, by rw [HF.out.2]; exact HSl.out, fun g e => by
        have e2 : gw = g := by simpa [Value.ownBlock] using e
        subst e2
        have h1 := HBs.out.1
        have h2 := HB2.out.size
        have h3 := HB0.out.size
        exact ⟨by omega, HBs.out.2⟩⟩, HB0.out.trans (HB3.out.mono HB0.out.size)⟩
end Go.Proofs.YthfegbcbpeedbaaDoor
namespace Go.Proofs.YthfegbcbpeedbaaDoor
open Go.RowKit Go.Nm Go.Ky

set_option maxRecDepth 100000 in
set_option maxHeartbeats 8000000 in
theorem ralone_any (u : Value) (l : List Int) (c s : Nat) (w : World) (hu : InSl w w.heap.size u l) (hc : c < l.length) (hs : s < 16) (hl : l.length ≤ 1000000) :
    Calls Tryd.prog 116 #[u, .int .i64 (c : Int), .int .i64 (s : Int)] w fun e w' => (∃ r, e = .returned r ∧ Fr w.heap.size w' r (l.set c (2 ^ s))) ∧ Below w.heap.size w w' := by
  obtain ⟨Au, cu, rfl, _⟩ := hu.form
  have HL0 := Lib.hid (OwN.lit w)
  have HIm := Lib.hid (hu.step HL0.out.bel)
  obtain ⟨n, hn⟩ : ∃ n, l.length = n := ⟨_, rfl⟩
  have HN := Lib.hid hn
  have HLe := Lib.hid (show ([] : List Int).length + l.length ≤ 3000000 from by simp; omega)
  have hcn : (c : Int) < (n : Int) := by omega
  have hcn2 : c < n := by omega
  rw [hn] at HIm ⊢
  have hs64 : s < 64 := by omega
  have hs0 : ¬ (s : Int) < 0 := by omega
  obtain ⟨p1, p2⟩ := pow16 (k := s) (by omega)
  have hpw : IntKind.i64.wrap ((2 : Int) ^ s) = 2 ^ s := by
    rw [show ((2 : Int) ^ s) = ((2 ^ s : Nat) : Int) from by simp, IntKind.wrap_i64]
    omega
  clear hu hn p1 p2
  go_enter Tryd.func116, Tryd.ntmps116
  go_wp2_with (at_builtin; refine wpList_appN rfl _ _ rfl HL0.out rfl rfl HIm.out HLe.out ?_; intro v6 w6 hI6 _; obtain ⟨g6, c6, e6, hc1, hc2, hW6⟩ := hI6.iwc (by simp only [List.nil_append]; have := HN.out; omega); rw [List.nil_append, HN.out] at e6 hc1 hW6; subst e6; have HW6 := Lib.hid hW6; have HO6 := Lib.hid hI6; have HCp := Lib.hid (And.intro hc1 hc2); have k6 := hW6.cell hcn2; have f6 := hW6.froz c; clear hI6 hc1 hc2 hW6)
  go_ret
  have h2 := (HW6.out.set c (2 ^ s))
  exact ⟨⟨_, rfl, h2.list HN.out hcn2 HCp.out.1 HCp.out.2, fun g e => by
    have e2 : g6 = g := by simpa [Value.ownBlock] using e
    subst e2
    exact ⟨h2.base, h2.lt⟩⟩, h2.bel⟩
set_option maxRecDepth 100000 in
set_option maxHeartbeats 4000000 in
theorem rdecided_any (x : Nat) (w : World) (h0 : 0 < x) (hx : x < 65536) :
    Calls Tryd.prog 118 #[.int .i64 (x : Int)] w fun e w' => e = .returned (.bool (decZ (x : Int))) ∧ w = w' := by
  have HC := Lib.hid (rleast_any x w h0 hx)
  have ht := (tz_ok h0 hx).1
  have HD := Lib.hid (show decZ (x : Int) = decide ((x : Int) = 2 ^ tzN x) from by
    rw [show decZ (x : Int) = decide (popN x = 1) from rfl, show ((2 : Int) ^ tzN x) = ((2 ^ tzN x : Nat) : Int) from by simp]
    rw [Bool.eq_iff_iff, decide_eq_true_eq, decide_eq_true_eq, dec_iff h0 hx]
    omega)
  obtain ⟨t, e⟩ : ∃ t, tzN x = t := ⟨_, rfl⟩
  rw [e] at HC HD ht
  obtain ⟨p1, p2⟩ := pow16 (k := t) (by omega)
  have hpw : IntKind.i64.wrap ((2 : Int) ^ t) = 2 ^ t := by
    rw [show ((2 : Int) ^ t) = ((2 ^ t : Nat) : Int) from by simp, IntKind.wrap_i64]
    omega
  have hs64 : t < 64 := by omega
  have hs0 : ¬ (t : Int) < 0 := by omega
  rw [HD.out]
  clear e p1 p2 HD
  go_enter Tryd.func118, Tryd.ntmps118
  go_wp2_with fail
  (with_reducible refine HC.out.mono ?_)
  rintro e w1 ⟨rfl, rfl⟩
  go_wp2_with fail
  go_ret
  exact ⟨by first | rfl | simp, rfl⟩
end Go.Proofs.YthfegbcbpeedbaaDoor
