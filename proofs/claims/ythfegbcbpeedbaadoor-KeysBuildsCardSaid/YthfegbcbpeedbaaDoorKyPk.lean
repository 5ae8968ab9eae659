/- The greatest of spread is worst. -/
import Derived.Test.YthfegbcbpeedbaaDoorKyPg
import Derived.Test.YthfegbcbpeedbaaDoorKyAs
namespace Go.Proofs.YthfegbcbpeedbaaDoor
open Go.RowKit Go.Nm Go.Ky

set_option maxRecDepth 100000 in
set_option maxHeartbeats 4000000 in
theorem IndexI_any (u : Value) (y : Int) (L : List Int) (w : World) (hu : InSl w w.heap.size u L) (hn : L.length ≤ 1000000) :
    Calls Tryd.prog 112 #[u, .int .i64 y] w fun e w' => (∃ k : Int, e = .returned (.int .i64 k) ∧ (decide (0 ≤ k) = L.any fun x => decide (x = y))) ∧ w = w' := by
  obtain ⟨A, c, rfl, _⟩ := hu.form
  have HA := Lib.hid (show InA w w.heap.size A L from by obtain ⟨_, _, e, _, _, h⟩ := hu; cases e; exact h)
  obtain ⟨n, h⟩ : ∃ n, L.length = n := ⟨_, rfl⟩
  have HN := Lib.hid h
  obtain ⟨r, hr⟩ : ∃ r, (L.any fun x => decide (x = y)) = r := ⟨_, rfl⟩
  have HR := Lib.hid hr
  rw [h] at hn ⊢
  rw [hr]
  clear hu h hr
  go_enter Tryd.func112, Tryd.ntmps112
  go_wp2_with fail
  go_loopw [8] (fun iv wr => ∃ i : Nat, iv = .int .i64 (i : Int) ∧ i ≤ n ∧ w = wr ∧ ∀ x ∈ L.take i, x ≠ y) (fun iv _ => n - (intOf iv).toNat)
  case atStart => exact ⟨0, rfl, by omega, rfl, fun x hx => by simp at hx⟩
  case round =>
    obtain ⟨i, rfl, hin, rfl, hg⟩ := hrel
    have HG := Lib.hid hg
    clear hg
    by_cases hlt : i < n
    · obtain ⟨x, ad, hx, rfl, _, hcx⟩ := HA.out.at_ HN.out hlt
      have HQ := Lib.hid hx
      clear hx
      by_cases h0 : y = x
      · have HF := Lib.hid (show r = true from by rw [← HR.out]; exact List.any_eq_true.2 ⟨x, List.mem_of_getElem? HQ.out, decide_eq_true h0.symm⟩)
        have hk : (0 : Int) ≤ (i : Int) := by omega
        go_wp2_with fail
        go_ret
        exact ⟨⟨_, rfl, by rw [HF.out]; exact decide_eq_true hk⟩, rfl⟩
      · have HT := Lib.hid (show ∀ z ∈ L.take (i + 1), z ≠ y from by
          intro z hz
          rw [List.take_add_one, HQ.out] at hz
          rcases List.mem_append.1 hz with h | h
          · exact HG.out z h
          · simp at h
            subst h
            exact fun e => h0 e.symm)
        go_wp2_with fail
        go_roundw
        case rel => exact ⟨i + 1, by go_num, by omega, by first | trivial | rfl, HT.out⟩
        case measure => simp [intOf]; omega
    · obtain rfl : n = i := by omega
      have HF := Lib.hid (show r = false from by
        rw [← HR.out, List.any_eq_false]
        intro x hx h
        rw [← List.take_of_length_le (Nat.le_of_eq HN.out)] at hx
        exact HG.out x hx (of_decide_eq_true h))
      go_wp2_with fail
      go_ret
      exact ⟨⟨_, rfl, by rw [HF.out]; rfl⟩, rfl⟩
set_option maxRecDepth 100000 in
set_option maxHeartbeats 4000000 in
theorem ContainsI_any (u : Value) (y : Int) (L : List Int) (w : World) (hu : InSl w w.heap.size u L) (hn : L.length ≤ 1000000) :
    Calls Tryd.prog 77 #[u, .int .i64 y] w fun e w' => e = .returned (.bool (L.any fun x => decide (x = y))) ∧ w = w' := by
  have HC := Lib.hid (IndexI_any u y L w hu hn)
  obtain ⟨r, hr⟩ : ∃ r, (L.any fun x => decide (x = y)) = r := ⟨_, rfl⟩
  rw [hr] at HC ⊢
  clear hr hu
  go_enter Tryd.func77, Tryd.ntmps77
  go_wp2_with fail
  (with_reducible refine HC.out.mono ?_)
  rintro e w1 ⟨⟨k, rfl, hk⟩, rfl⟩
  cases r with
  | true =>
    have h0 : (0 : Int) ≤ k := of_decide_eq_true hk
    go_wp2_with fail
    go_ret
    exact ⟨rfl, rfl⟩
  | false =>
    have h0 : ¬ (0 : Int) ≤ k := of_decide_eq_false hk
    go_wp2_with fail
    go_ret
    exact ⟨rfl, rfl⟩
/-- a row of two lists -/
theorem two_box {w : World} {v u : Value} {a b : List Int} (h : InSl w w.heap.size v a) (h' : InSl w w.heap.size u b) : VsSl (w.alloc (.cells #[v, u] 22)) (w.alloc (.cells #[v, u] 22)).heap.size (.slice (some ⟨w.heap.size, 0, none⟩) 2 2) [a, b] := by
  have hb := below_new (w := w) (.cells #[v, u] 22)
  have hn := World.alloc_heap_new w (.cells #[v, u] 22)
  refine ⟨_, 2, [v, u], rfl, ⟨rfl, fun i x L h1 h2 => ?_⟩, fun i x h1 => ⟨_, rfl, (Array.getElem?_eq_some_iff.1 hn).1, ?_⟩⟩
  · rcases (show i = 0 ∨ i = 1 by have := (List.getElem?_eq_some_iff.1 h1).1; simp at this; omega) with rfl | rfl
    · simp at h1 h2
      subst h1; subst h2
      exact h.step hb
    · simp at h1 h2
      subst h1; subst h2
      exact h'.step hb
  · rw [add_zero_k]
    simp only [World.cell?, hn]
    simpa using h1
theorem fits_any0 {a b : List Int} : ((List.zipWith meetF a b).any fun x => decide (x = 0)) = !(fitsF a b) := by
  rw [show fitsF a b = (List.zipWith meetF a b).all fun z => decide (z ≠ 0) from zip_all a b]
  generalize List.zipWith meetF a b = L
  induction L with
  | nil => rfl
  | cons x L ih =>
    rw [List.any_cons, List.all_cons, ih]
    by_cases hx : x = 0 <;> simp [hx]
set_option maxRecDepth 100000 in
set_option maxHeartbeats 8000000 in
theorem Both_any (v ua ub : Value) (m : Mx) (a b : List Int) (w : World) (hv : MxV w v m) (hs : MSm m) (hua : InSl w w.heap.size ua a) (hub : InSl w w.heap.size ub b) (hla : a.length ≤ 100000) (hlb : b.length ≤ 100000) :
    Calls Tryd.prog 30 #[v, ua, ub] w fun e w' => (∃ u, e = .returned (.tuple #[u, .int .i64 (bothE m a b)]) ∧ Fr w.heap.size w' u (bothL m a b)) ∧ Below w.heap.size w w' := by
  obtain ⟨A1, c1, A2, c2, W0, rfl, hW0, hb0, hM, hS, hR, hX⟩ := mx_box hv
  have hz : W0.heap.size = w.heap.size + 1 := by rw [← hW0]; simp
  have HB0 := Lib.hid hb0
  have HW0 := Lib.hid hW0
  have hua0 := hua.step hb0
  have hub0 := hub.step hb0
  obtain ⟨Ax, cx, rfl, _⟩ := hua0.form
  obtain ⟨Ay, cy, rfl, _⟩ := hub0.form
  have hb1 := below_new (w := W0) (.cells #[.slice Ax a.length cx, .slice Ay b.length cy] 22)
  have HB1 := Lib.hid hb1
  have HC := Lib.hid (checkSeen_any _ _ m [a, b] _ (hM _ hb1) hs (two_box hua0 hub0) (by intro L hL; simp at hL; rcases hL with rfl | rfl <;> omega) (by simp))
  have HCo := Lib.hid (fun (h : b.length = a.length) Y (hb : Below W0.heap.size W0 Y) => common_any _ _ a b Y (hua0.step hb) (hub0.step hb) h hla)
  have HCt := Lib.hid (fun u L Y (h : InSl Y Y.heap.size u L) (hn : L.length ≤ 1000000) => ContainsI_any u 0 L Y h hn)
  have HSe := Lib.hid (show seenE m [a, b] = 0 → b.length = a.length from fun h => by
    cases hm : mxF m with
    | false => rw [seenE_bad hm] at h; cases h
    | true =>
      rw [seen2 hm] at h
      split at h
      · rename_i h2; exact (sets_len h2.2).trans (sets_len h2.1).symm
      · cases h)
  have HSc := Lib.hid (show seenE m [a, b] = 0 ∨ seenE m [a, b] = 30 ∨ seenE m [a, b] = 32 from by
    unfold seenE; split
    · split <;> simp
    · simp)
  have HBd := Lib.hid (fun h : seenE m [a, b] ≠ 0 => both_bad h)
  have HNo := Lib.hid (fun (h : seenE m [a, b] = 0) (hf : fitsF a b = false) => both_no h hf)
  have HYe := Lib.hid (fun (h : seenE m [a, b] = 0) (hf : fitsF a b = true) => both_yes h hf)
  have HZw := Lib.hid (fun (h : b.length = a.length) => show (List.zipWith meetF a b).length = a.length from by rw [List.length_zipWith, h]; omega)
  obtain ⟨k0, k1⟩ := hX W0 (Below.refl _ _)
  obtain ⟨d0, d1⟩ := hX _ hb1
  obtain ⟨be, hbe⟩ : ∃ x, bothE m a b = x := ⟨_, rfl⟩
  obtain ⟨bl, hbl⟩ : ∃ x, bothL m a b = x := ⟨_, rfl⟩
  obtain ⟨se, hse⟩ : ∃ x, seenE m [a, b] = x := ⟨_, rfl⟩
  rw [hbe, hbl, hse] at HBd HNo HYe
  rw [hse] at HC HSe HSc
  rw [hz] at HC
  rw [hbe, hbl]
  generalize m.rows.length = nr at *
  generalize m.st.length = ns at *
  obtain ⟨na, hna⟩ : ∃ n, a.length = n := ⟨_, rfl⟩
  obtain ⟨nb, hnb⟩ : ∃ n, b.length = n := ⟨_, rfl⟩
  rw [hna] at HC HCo HSe hla HZw HB1 d0 d1
  rw [hnb] at HC HCo HSe hlb HZw HB1 d0 d1
  rw [hna, hnb]
  have HNa := Lib.hid (And.intro hna hnb)
  clear hv hs hua hub hua0 hub0 hW0 hb0 hM hS hR hX hbe hbl hse hna hnb hb1 hz
  go_enter Tryd.func30, Tryd.ntmps30
  go_wp2_with fail
  rw [HW0.out]
  (try go_wp2_with fail)
  (with_reducible refine HC.out.mono ?_)
  rintro e w1 ⟨rfl, hb⟩
  have HB2 := Lib.hid (HB1.out.trans (hb.mono HB1.out.size))
  clear hb k0 k1 d0 d1 HC HB1
  rcases HSc.out with rfl | rfl | rfl
  rotate_left
  · have HF := Lib.hid (HBd.out (by decide))
    go_wp2_with fail
    go_ret2
    exact ⟨⟨_, by rw [HF.out.1]; rfl, by rw [HF.out.2]; exact Fr.nil _ _⟩, HB0.out.trans (HB2.out.mono HB0.out.size)⟩
  · have HF := Lib.hid (HBd.out (by decide))
    go_wp2_with fail
    go_ret2
    exact ⟨⟨_, by rw [HF.out.1]; rfl, by rw [HF.out.2]; exact Fr.nil _ _⟩, HB0.out.trans (HB2.out.mono HB0.out.size)⟩
  · have hnn := HSe.out rfl
    subst hnn
    have HC2 := Lib.hid (HCo.out rfl w1 HB2.out)
    have HZl := Lib.hid (HZw.out rfl)
    clear HSe HCo HSc HBd HZw
    go_wp2_with fail
    (with_reducible refine HC2.out.mono ?_)
    rintro e w2 ⟨gw, f, rfl, hI, hf⟩
    have HI := Lib.hid hI
    have HSl := Lib.hid (hI.sl (by omega) (L := List.zipWith meetF a b) (by rw [HZl.out]) (fun k x hx => by
      rw [List.getElem?_zipWith] at hx
      cases ha : a[k]? with
      | none => rw [ha] at hx; simp at hx
      | some p =>
        cases hb : b[k]? with
        | none => rw [ha, hb] at hx; simp at hx
        | some q =>
          rw [ha, hb] at hx
          simp at hx
          rw [hf k p q ha hb, hx]))
    have HC3 := Lib.hid (HCt.out _ _ w2 HSl.out (by rw [HZl.out]; omega))
    rw [fits_any0] at HC3
    have HB3 := Lib.hid (HB2.out.trans (HI.out.bel.mono HB2.out.size))
    have HBs := Lib.hid (And.intro HI.out.base HI.out.lt)
    clear hI hf HC2 HCt HI
    cases hft : fitsF a b with
    | false =>
      rw [hft] at HC3
      have HF := Lib.hid (HNo.out (by first | trivial | rfl) hft)
      clear hft
      go_wp2_with fail
      (with_reducible refine HC3.out.mono ?_)
      rintro e w3 ⟨rfl, rfl⟩
      go_wp2_with fail
      go_ret2
      exact ⟨⟨_, by rw [HF.out.1]; rfl, by rw [HF.out.2]; exact Fr.nil _ _⟩, HB0.out.trans (HB3.out.mono HB0.out.size)⟩
    | true =>
      rw [hft] at HC3
      have HF := Lib.hid (HYe.out (by first | trivial | rfl) hft)
      clear hft
      go_wp2_with fail
      (with_reducible refine HC3.out.mono ?_)
      rintro e w3 ⟨rfl, rfl⟩
      go_wp2_with fail
      go_ret2
      exact ⟨⟨_, by rw [HF.out.1]; rfl, by rw [HF.out.2]; exact HSl.out, fun g e => by
        have e2 : gw = g := by simpa [Value.ownBlock] using e
        subst e2
        have h1 := HBs.out.1
        have h2 := HB2.out.size
        have h3 := HB0.out.size
        exact ⟨by omega, HBs.out.2⟩⟩, HB0.out.trans (HB3.out.mono HB0.out.size)⟩
end Go.Proofs.YthfegbcbpeedbaaDoor
namespace Go.Proofs.YthfegbcbpeedbaaDoor
open Go.RowKit Go.Nm Go.Ky

set_option maxRecDepth 100000 in
set_option maxHeartbeats 8000000 in
theorem ralone_any (u : Value) (l : List Int) (c s : Nat) (w : World) (hu : InSl w w.heap.size u l) (hc : c < l.length) (hs : s < 16) (hl : l.length ≤ 1000000) :
    Calls Tryd.prog 116 #[u, .int .i64 (c : Int), .int .i64 (s : Int)] w fun e w' => (∃ r, e = .returned r ∧ Fr w.heap.size w' r (l.set c (2 ^ s))) ∧ Below w.heap.size w w' := by
  obtain ⟨Au, cu, rfl, _⟩ := hu.form
  have HL0 := Lib.hid (OwN.lit w)
  have HIm := Lib.hid (hu.step HL0.out.bel)
  obtain ⟨n, hn⟩ : ∃ n, l.length = n := ⟨_, rfl⟩
  have HN := Lib.hid hn
  have HLe := Lib.hid (show ([] : List Int).length + l.length ≤ 3000000 from by simp; omega)
  have hcn : (c : Int) < (n : Int) := by omega
  have hcn2 : c < n := by omega
  rw [hn] at HIm ⊢
  have hs64 : s < 64 := by omega
  have hs0 : ¬ (s : Int) < 0 := by omega
  obtain ⟨p1, p2⟩ := pow16 (k := s) (by omega)
  have hpw : IntKind.i64.wrap ((2 : Int) ^ s) = 2 ^ s := by
    rw [show ((2 : Int) ^ s) = ((2 ^ s : Nat) : Int) from by simp, IntKind.wrap_i64]
    omega
  clear hu hn p1 p2
  go_enter Tryd.func116, Tryd.ntmps116
  go_wp2_with (at_builtin; refine wpList_appN rfl _ _ rfl HL0.out rfl rfl HIm.out HLe.out ?_; intro v6 w6 hI6 _; obtain ⟨g6, c6, e6, hc1, hc2, hW6⟩ := hI6.iwc (by simp only [List.nil_append]; have := HN.out; omega); rw [List.nil_append, HN.out] at e6 hc1 hW6; subst e6; have HW6 := Lib.hid hW6; have HO6 := Lib.hid hI6; have HCp := Lib.hid (And.intro hc1 hc2); have k6 := hW6.cell hcn2; have f6 := hW6.froz c; clear hI6 hc1 hc2 hW6)
  go_ret
  have h2 := (HW6.out.set c (2 ^ s))
  exact ⟨⟨_, rfl, h2.list HN.out hcn2 HCp.out.1 HCp.out.2, fun g e => by
    have e2 : g6 = g := by simpa [Value.ownBlock] using e
    subst e2
    exact ⟨h2.base, h2.lt⟩⟩, h2.bel⟩
set_option maxRecDepth 100000 in
set_option maxHeartbeats 4000000 in
theorem rdecided_any (x : Nat) (w : World) (h0 : 0 < x) (hx : x < 65536) :
    Calls Tryd.prog 118 #[.int .i64 (x : Int)] w fun e w' => e = .returned (.bool (decZ (x : Int))) ∧ w = w' := by
  have HC := Lib.hid (rleast_any x w h0 hx)
  have ht := (tz_ok h0 hx).1
  have HD := Lib.hid (show decZ (x : Int) = decide ((x : Int) = 2 ^ tzN x) from by
    rw [show decZ (x : Int) = decide (popN x = 1) from rfl, show ((2 : Int) ^ tzN x) = ((2 ^ tzN x : Nat) : Int) from by simp]
    rw [Bool.eq_iff_iff, decide_eq_true_eq, decide_eq_true_eq, dec_iff h0 hx]
    omega)
  obtain ⟨t, e⟩ : ∃ t, tzN x = t := ⟨_, rfl⟩
  rw [e] at HC HD ht
  obtain ⟨p1, p2⟩ := pow16 (k := t) (by omega)
  have hpw : IntKind.i64.wrap ((2 : Int) ^ t) = 2 ^ t := by
    rw [show ((2 : Int) ^ t) = ((2 ^ t : Nat) : Int) from by simp, IntKind.wrap_i64]
    omega
  have hs64 : t < 64 := by omega
  have hs0 : ¬ (t : Int) < 0 := by omega
  rw [HD.out]
  clear e p1 p2 HD
  go_enter Tryd.func118, Tryd.ntmps118
  go_wp2_with fail
  (with_reducible refine HC.out.mono ?_)
  rintro e w1 ⟨rfl, rfl⟩
  go_wp2_with fail
  go_ret
  exact ⟨by first | rfl | simp, rfl⟩
end Go.Proofs.YthfegbcbpeedbaaDoor
namespace Go.Ky
open Go.Nm
/-- how many names remain with one state alone -/
def aloneN (m : Mx) (l : List Int) (c s : Nat) : Int := (((remL m.rows (l.set c (2 ^ s))).length : Nat) : Int)
def spS (m : Mx) (l : List Int) (c : Nat) : Nat → Int × Int
  | 0 => (-1, 0)
  | s + 1 => if ((l.getD c 0).toNat / 2 ^ s) % 2 = 1 then (if (spS m l c s).1 < 0 ∨ aloneN m l c s < (spS m l c s).1 then aloneN m l c s else (spS m l c s).1, max (spS m l c s).2 (aloneN m l c s)) else spS m l c s
theorem spS_no {m : Mx} {l : List Int} {c s x : Nat} (hx : l[c]? = some (x : Int)) (h : x / 2 ^ s % 2 = 0) : spS m l c (s + 1) = spS m l c s := by
  conv => lhs; unfold spS
  rw [List.getD_eq_getElem?_getD, hx]
  simp [h]
theorem spS_yes {m : Mx} {l : List Int} {c s x : Nat} (hx : l[c]? = some (x : Int)) (h : x / 2 ^ s % 2 = 1) : spS m l c (s + 1) = (if (spS m l c s).1 < 0 ∨ aloneN m l c s < (spS m l c s).1 then aloneN m l c s else (spS m l c s).1, max (spS m l c s).2 (aloneN m l c s)) := by
  conv => lhs; unfold spS
  rw [List.getD_eq_getElem?_getD, hx]
  simp [h]
end Go.Ky
namespace Go.Proofs.YthfegbcbpeedbaaDoor
open Go.RowKit Go.Nm Go.Ky

structure SpI (V : World) (mv uv : Value) (c s N : Int) (L : List Int) (M : List Int) (dn : Nat → Bool) (val : Nat → Value) (X : World) : Prop where
  s0 : dn 0 = true → val 0 = mv
  s1 : dn 1 = true → val 1 = uv
  s2 : dn 2 = true → val 2 = .int .i64 c
  s3 : dn 3 = true → val 3 = .int .i64 s
  s6 : dn 6 = true → val 6 = .int .i64 N
  s7 : dn 7 = true → val 7 = .int .i64 N
  bel : Below V.heap.size V X
  e4 : dn 4 = true → InSl X X.heap.size (val 4) L
  e5 : dn 5 = true → InSl X X.heap.size (val 5) M
section
variable {V : World} {mv uv : Value} {c s N : Int} {L : List Int} {M : List Int} {dn : Nat → Bool} {val : Nat → Value} {X Y : World}
theorem SpI.op0 (h : SpI V mv uv c s N L M dn val X) : SpI V mv uv c s N L M (andB dn 0) (updV val 0 (mv)) X :=
  ⟨(fun _ => rfl), h.s1, h.s2, h.s3, h.s6, h.s7, h.bel, h.e4, h.e5⟩
theorem SpI.op1 (h : SpI V mv uv c s N L M dn val X) : SpI V mv uv c s N L M (andB dn 1) (updV val 1 (uv)) X :=
  ⟨h.s0, (fun _ => rfl), h.s2, h.s3, h.s6, h.s7, h.bel, h.e4, h.e5⟩
theorem SpI.op2 (h : SpI V mv uv c s N L M dn val X) : SpI V mv uv c s N L M (andB dn 2) (updV val 2 (.int .i64 c)) X :=
  ⟨h.s0, h.s1, (fun _ => rfl), h.s3, h.s6, h.s7, h.bel, h.e4, h.e5⟩
theorem SpI.op3 (h : SpI V mv uv c s N L M dn val X) : SpI V mv uv c s N L M (andB dn 3) (updV val 3 (.int .i64 s)) X :=
  ⟨h.s0, h.s1, h.s2, (fun _ => rfl), h.s6, h.s7, h.bel, h.e4, h.e5⟩
theorem SpI.op6 (h : SpI V mv uv c s N L M dn val X) : SpI V mv uv c s N L M (andB dn 6) (updV val 6 (.int .i64 N)) X :=
  ⟨h.s0, h.s1, h.s2, h.s3, (fun _ => rfl), h.s7, h.bel, h.e4, h.e5⟩
theorem SpI.op7 (h : SpI V mv uv c s N L M dn val X) : SpI V mv uv c s N L M (andB dn 7) (updV val 7 (.int .i64 N)) X :=
  ⟨h.s0, h.s1, h.s2, h.s3, h.s6, (fun _ => rfl), h.bel, h.e4, h.e5⟩
theorem SpI.op4 (h : SpI V mv uv c s N L M dn val X) {v : Value} (n5 : dn 5 = false) (hv : InSl Y Y.heap.size v L) (hb : Below X.heap.size X Y) : SpI V mv uv c s N L M (andB dn 4) (updV val 4 (v)) (Y) :=
  ⟨h.s0, h.s1, h.s2, h.s3, h.s6, h.s7, h.bel.trans (hb.mono h.bel.size), (fun _ => hv), (fun d => f_t n5 d)⟩
theorem SpI.op5 (h : SpI V mv uv c s N L M dn val X) {v : Value} (hv : InSl Y Y.heap.size v M) (hb : Below X.heap.size X Y) : SpI V mv uv c s N L M (andB dn 5) (updV val 5 (v)) (Y) :=
  ⟨h.s0, h.s1, h.s2, h.s3, h.s6, h.s7, h.bel.trans (hb.mono h.bel.size), (fun d => (h.e4 d).step hb), (fun _ => hv)⟩
end
section
variable {o : Oper} {a : Act} {w : World} {K : Act → World → Prop} {Q : Exit → Act → World → Prop}
set_option maxRecDepth 100000 in
theorem opCallAl (q r s : Nat) (v1 v2 v3 : Value) (R : Ending → World → Prop) (ho : o.op = .call { callee := .value (.func 116), args := #[.tmp q, .tmp r, .tmp s], argTypes := #[22, 3, 3] }) (h1 : a.tmps.getD q undef = v1) (h2 : a.tmps.getD r undef = v2) (h3 : a.tmps.getD s undef = v3)
    (hc : Calls Tryd.prog 116 #[v1, v2, v3] w R) (h : ∀ e w', R e w' → ∃ v, e = .returned v ∧ K (a.put o.dst v) w') : o.wp Tryd.prog a w K Q := by
  unfold Oper.wp execOp
  have e1 : a.eval (.tmp q) = v1 := h1
  have e2 : a.eval (.tmp r) = v2 := h2
  have e3 : a.eval (.tmp s) = v3 := h3
  simp only [ho]
  go_simp
  refine hc.mono ?_
  intro e w' hR
  obtain ⟨v, rfl, hK⟩ := h e w' hR
  exact hK
set_option maxRecDepth 100000 in
theorem opCallRe (q r : Nat) (v1 v2 : Value) (R : Ending → World → Prop) (ho : o.op = .call { callee := .value (.func 75), args := #[.tmp q, .tmp r], argTypes := #[25, 22] }) (h1 : a.tmps.getD q undef = v1) (h2 : a.tmps.getD r undef = v2)
    (hc : Calls Tryd.prog 75 #[v1, v2] w R) (h : ∀ e w', R e w' → ∃ v, e = .returned v ∧ K (a.put o.dst v) w') : o.wp Tryd.prog a w K Q := by
  unfold Oper.wp execOp
  have e1 : a.eval (.tmp q) = v1 := h1
  have e2 : a.eval (.tmp r) = v2 := h2
  simp only [ho]
  go_simp
  refine hc.mono ?_
  intro e w' hR
  obtain ⟨v, rfl, hK⟩ := h e w' hR
  exact hK
set_option maxRecDepth 100000 in
theorem opLenI (q n c : Nat) (A : Option Addr) (ho : o.op = .call { callee := .builtin .len, args := #[.tmp q], argTypes := #[22] }) (h1 : a.tmps.getD q undef = .slice A n c) (h : K (a.put o.dst (.int .i64 (n : Int))) w) : o.wp Tryd.prog a w K Q := by
  unfold Oper.wp execOp
  have e1 : a.eval (.tmp q) = .slice A n c := h1
  simp only [ho]
  go_simp
  exact h
end
set_option maxRecDepth 100000 in
set_option maxHeartbeats 8000000 in
theorem rspread_any (v u : Value) (m : Mx) (l : List Int) (c : Nat) (w : World) (hv : MxV w v m) (hs : MSm m) (hu : InSl w w.heap.size u l) (hm : mxF m = true) (hl : setsF m.st l = true) (hc : c < l.length) {q : Int} (hq : m.st[c]? = some q) :
    Calls Tryd.prog 83 #[v, u, .int .i64 (c : Int)] w fun e w' => e = .returned (.tuple #[.int .i64 (spS m l c q.toNat).1, .int .i64 (spS m l c q.toNat).2]) ∧ Below w.heap.size w w' := by
  obtain ⟨x, hx⟩ : ∃ x, l[c]? = some x := ⟨_, List.getElem?_eq_getElem hc⟩
  have hx1 := sets_range hm hl hx
  obtain ⟨x, rfl⟩ : ∃ n : Nat, x = (n : Int) := ⟨x.toNat, by omega⟩
  have hq1 := (chr_ok (mx_all hm).1).2.2 c q hq
  obtain ⟨n, rfl⟩ : ∃ n : Nat, q = (n : Int) := ⟨q.toNat, by omega⟩
  have hn16 : n ≤ 16 := by omega
  rw [show (n : Int).toNat = n from rfl]
  have hll := sets_len' hl
  have hns : m.st.length ≤ 1000 := hs.1
  obtain ⟨A1, c1, A2, c2, W0, rfl, hW0, hb0, hM, hS, hR, hX⟩ := mx_box hv
  have HB0 := Lib.hid hb0
  have HW0 := Lib.hid hW0
  have hn0 : W0.heap[w.heap.size]? = some (.cells #[.slice A1 m.st.length c1, .slice A2 m.rows.length c2] 25) := by rw [← hW0]; exact World.alloc_heap_new w _
  have HX := Lib.hid (fun Y (h : Below W0.heap.size W0 Y) => And.intro (hX Y h) ((h.block _ (Array.getElem?_eq_some_iff.1 hn0).1).trans hn0))
  have hu0 := hu.step hb0
  obtain ⟨Au, cu, rfl, _⟩ := hu0.form
  have HT := Lib.hid hu0
  have HAl := Lib.hid (fun s (h : s < 16) Y (hb : Below W0.heap.size W0 Y) => ralone_any _ l c s Y (hu0.step hb) hc h (by omega))
  have HRe := Lib.hid (fun s u Y (hb : Below W0.heap.size W0 Y) (h : InSl Y Y.heap.size u (l.set c (2 ^ s))) => rremain_any _ u m (l.set c (2 ^ s)) Y (hM Y hb) hs h (fun r hr => by rw [List.length_set, hll, sets_len' ((mx_all hm).2.2 r hr)]) (by rw [List.length_set]; omega))
  have HSq := Lib.hid (show ∀ Y, Below W0.heap.size W0 Y → InA Y Y.heap.size A1 m.st from fun Y h => by obtain ⟨_, _, e, _, _, h⟩ := hS Y h; cases e; exact h)
  have HAu := Lib.hid (show ∀ Y, Below W0.heap.size W0 Y → InA Y Y.heap.size Au l from fun Y h => by obtain ⟨_, _, e, _, _, h⟩ := hu0.step h; cases e; exact h)
  have HG := Lib.hid (And.intro hq (And.intro hx hll))
  have HNo := Lib.hid (fun s (h : x / 2 ^ s % 2 = 0) => spS_no (m := m) (s := s) hx h)
  have HYe := Lib.hid (fun s (h : x / 2 ^ s % 2 = 1) => spS_yes (m := m) (s := s) hx h)
  have HNn := Lib.hid (fun s => show 0 ≤ aloneN m l c s from by unfold aloneN; omega)
  have HAn := Lib.hid (fun s => show (((remL m.rows (l.set c (2 ^ s))).map (·.nm)).length : Int) = aloneN m l c s from by unfold aloneN; rw [List.length_map])
  have HSp := Lib.hid (show spS m l c 0 = (-1, 0) from rfl)
  obtain ⟨F, hF⟩ : ∃ F, spS m l c = F := ⟨_, rfl⟩
  rw [hF] at HNo HYe HSp ⊢
  obtain ⟨N, hN⟩ : ∃ N, aloneN m l c = N := ⟨_, rfl⟩
  rw [hN] at HYe HNn HAn
  obtain ⟨ns, hn⟩ : ∃ n, m.st.length = n := ⟨_, rfl⟩
  obtain ⟨nl, hnl⟩ : ∃ n, l.length = n := ⟨_, rfl⟩
  generalize m.rows.length = nr at *
  have HNl := Lib.hid (And.intro hn hnl)
  have hcl : c < nl := by omega
  have hcs : c < ns := by omega
  rw [hn] at HW0 HX HRe
  rw [hnl] at HT HAl
  rw [hn, hnl]
  clear hv hs hu hm hl hc hq hx hn0 hu0 hW0 hb0 hM hS hR hX hll hF hN hn hnl
  go_enter Tryd.func83, Tryd.ntmps83
  go_wp2_with fail
  rw [HW0.out]
  (try go_wp2_with fail)
  go_loopw [8, 9, 10] (fun lv hv iv wr => ∃ i : Nat, lv = .int .i64 (F i).1 ∧ hv = .int .i64 (F i).2 ∧ iv = .int .i64 (i : Int) ∧ i ≤ n ∧ Below W0.heap.size W0 wr) (fun _ _ iv _ => n - (intOf iv).toNat)
  case atStart => exact ⟨0, by rw [HSp.out], by rw [HSp.out], rfl, by omega, Below.refl _ _⟩
  case round =>
    obtain ⟨i, rfl, rfl, rfl, hin, hb⟩ := hrel
    have HB := Lib.hid hb
    clear hb
    obtain ⟨k0, k1⟩ := (HX.out wr HB.out).1
    obtain ⟨q1, ad, hq, rfl, _, hcq⟩ := (HSq.out wr HB.out).at_ HNl.out.1 hcs
    obtain ⟨x1, bd, hx, rfl, _, hcx⟩ := (HAu.out wr HB.out).at_ HNl.out.2 hcl
    rw [HG.out.1] at hq
    injection hq with hq
    subst hq
    rw [HG.out.2.1] at hx
    injection hx with hx
    subst hx
    by_cases hlt : i < n
    · have hi0 : ¬ (i : Int) < 0 := by omega
      have hi64 : i < 64 := by omega
      have hi16 : i < 16 := by omega
      obtain ⟨q, hq⟩ : ∃ q, x / 2 ^ i = q := ⟨_, rfl⟩
      have hqi : (x : Int) / 2 ^ i = (q : Int) := by rw [← hq]; simp
      rcases Nat.mod_two_eq_zero_or_one q with hr | hr
      · have HF := Lib.hid (HNo.out i (by rw [hq]; exact hr))
        have hrm : (q : Int) % 2 = 0 := by omega
        have hrt : Int.tmod (q : Int) 2 = 0 := by rw [Int.tmod_eq_emod_of_nonneg (by omega)]; exact hrm
        clear hq hr
        go_wp2_with fail
        go_roundw
        case rel => exact ⟨i + 1, by rw [HF.out], by rw [HF.out], by go_num, by omega, HB.out⟩
        case measure => simp [intOf]; omega
      · have HF := Lib.hid (HYe.out i (by rw [hq]; exact hr))
        have hrm : (q : Int) % 2 = 1 := by omega
        have hrt : Int.tmod (q : Int) 2 = 1 := by rw [Int.tmod_eq_emod_of_nonneg (by omega)]; exact hrm
        obtain ⟨lo, hlo⟩ : ∃ z, (F i).1 = z := ⟨_, rfl⟩
        obtain ⟨hi, hhi⟩ : ∃ z, (F i).2 = z := ⟨_, rfl⟩
        obtain ⟨N0, hN0⟩ : ∃ z, N i = z := ⟨_, rfl⟩
        rw [hlo, hhi, hN0] at HF
        rw [hlo, hhi]
        have HM := Lib.hid (show 0 ≤ N0 ∧ (((remL m.rows (l.set c (2 ^ i))).map (·.nm)).length : Int) = N0 from by rw [← hN0]; exact ⟨HNn.out i, HAn.out i⟩)
        have HA1 := Lib.hid (HAl.out i hi16)
        have HR1 := Lib.hid (HRe.out i)
        clear hq hr hlo hhi hN0
        go_wp2_with fail
        clear k0 k1 hcq hcx hrm hrt hqi
        refine wp_opaque ?_
        intro t0 ht0
        have hsz0 : t0.size = 49 := by rw [ht0]; rfl
        have q3 : t0.getD 3 undef = .pointer (some ⟨w.heap.size, 0, none⟩) := by rw [ht0]; rfl
        have q1 : t0.getD 1 undef = .slice (some bd) nl cu := by rw [ht0]; rfl
        have q2 : t0.getD 2 undef = .int .i64 (c : Int) := by rw [ht0]; rfl
        have q10 : t0.getD 10 undef = .int .i64 (i : Int) := by rw [ht0]; rfl
        have HT0 := Lib.hid ht0
        clear ht0
        have HBd := Lib.hid (fun X (hI : Below wr.drew.heap.size wr.drew X) => HB.out.trans (((Below.refl wr.heap.size wr).drew.trans hI).mono HB.out.size))
        refine wp_region_vals [some 29, some 30, some 31, some 32, some 33, some 34, some 35, some 11] (SpI wr.drew (.agg #[.slice (some ad) ns c1, .slice A2 nr c2]) (.slice (some bd) nl cu) c i N0 (l.set c (2 ^ i)) ((remL m.rows (l.set c (2 ^ i))).map (·.nm))) (by kernel_rfl) (by kernel_rfl) rfl rfl (by simp [hsz0]) (by kernel_rfl) ?_ ?_ ?_
        · intro val
          exact ⟨(fun h => nomatch h), (fun h => nomatch h), (fun h => nomatch h), (fun h => nomatch h), (fun h => nomatch h), (fun h => nomatch h), Below.refl _ _, (fun h => nomatch h), (fun h => nomatch h)⟩
        · intro dn q o hi hd hp hc val X a ha hn' hI K hK
          have hq : q < 8 := by
            have := (Array.getElem?_eq_some_iff.1 hi).1
            simpa using this
          have c5 : dn 5 = true → dn 4 = true := fun h => hc 5 _ rfl h ⟨4, .data⟩ (by simp) rfl
          have bf : ∀ {q : Bool}, (q = true → False) → q = false := fun {q} h => by cases q; rfl; exact (h rfl).elim
          have hB := HBd.out X hI.bel
          rcases (show q = 0 ∨ q = 1 ∨ q = 2 ∨ q = 3 ∨ q = 4 ∨ q = 5 ∨ q = 6 ∨ q = 7 by omega) with rfl | rfl | rfl | rfl | rfl | rfl | rfl | rfl
          · obtain rfl := Option.some.inj hi
            exact opLdMx 3 _ _ _ rfl ((ha 3).trans q3) (HX.out X hB).2 (hK _ _ hI.op0)
          · obtain rfl := Option.some.inj hi
            exact opMove 1 _ rfl ((ha 1).trans q1) (hK _ _ hI.op1)
          · obtain rfl := Option.some.inj hi
            exact opMove 2 _ rfl ((ha 2).trans q2) (hK _ _ hI.op2)
          · obtain rfl := Option.some.inj hi
            exact opMove 10 _ rfl ((ha 10).trans q10) (hK _ _ hI.op3)
          · obtain rfl := Option.some.inj hi
            have n5 : dn 5 = false := bf fun h => f_t hd (c5 h)
            refine opCallAl 30 31 32 _ _ _ _ rfl ((ha 30).trans (hI.s1 (hp ⟨1, .data⟩ (by simp) rfl))) ((ha 31).trans (hI.s2 (hp ⟨2, .data⟩ (by simp) rfl))) ((ha 32).trans (hI.s3 (hp ⟨3, .data⟩ (by simp) rfl))) (HA1.out X hB) ?_
            rintro e Y ⟨⟨r, rfl, hF⟩, hb⟩
            exact ⟨r, rfl, hK _ _ (hI.op4 n5 hF.1 hb)⟩
          · obtain rfl := Option.some.inj hi
            have y4 := hp ⟨4, .data⟩ (by simp) rfl
            refine opCallRe 29 33 _ _ _ rfl ((ha 29).trans (hI.s0 (hp ⟨0, .data⟩ (by simp) rfl))) (ha 33) (HR1.out _ X hB (hI.e4 y4)) ?_
            rintro e Y ⟨⟨r, rfl, hr, _⟩, hb⟩
            exact ⟨r, rfl, hK _ _ (hI.op5 hr hb)⟩
          · obtain rfl := Option.some.inj hi
            obtain ⟨A5, d5, e5, _⟩ := (hI.e5 (hp ⟨5, .data⟩ (by simp) rfl)).form
            have hK2 := hK _ _ hI.op6
            rw [← HM.out.2] at hK2
            exact opLenI 34 _ _ _ rfl ((ha 34).trans e5) hK2
          · obtain rfl := Option.some.inj hi
            exact opAssign 35 _ rfl ((ha 35).trans (hI.s6 (hp ⟨6, .data⟩ (by simp) rfl))) (hK _ _ hI.op7)
        · intro dn val X hdn hI
          have HB2 := Lib.hid (HBd.out X hI.bel)
          have h7 := hI.s7 (hdn 7 (by simp))
          simp only [wrS, HT0.out]
          simp only [List.setIfInBounds_toArray, List.set_cons_succ, List.set_cons_zero]
          rw [h7]
          (try simp only [Exit.then])
          clear hdn hI h7 HT0 hsz0 q3 q1 q2 q10 HBd HA1 HR1
          have hN0 := HM.out.1
          obtain ⟨mx, hmx⟩ : ∃ z, max hi N0 = z := ⟨_, rfl⟩
          rw [hmx] at HF
          have HMx := Lib.hid (show (if hi < N0 then N0 else hi) = mx from by rw [← hmx]; split <;> omega)
          clear hmx
          by_cases hl0 : lo < 0
          · have HF2 := Lib.hid (show F (i + 1) = (N0, mx) from by rw [HF.out, if_pos (.inl hl0)])
            (try go_wp2_with fail)
            go_roundw
            case rel => exact ⟨i + 1, by rw [HF2.out], by rw [HF2.out, HMx.out], by go_num, by omega, HB2.out⟩
            case measure => simp [intOf]; omega
          · by_cases hl1 : N0 < lo
            · have HF2 := Lib.hid (show F (i + 1) = (N0, mx) from by rw [HF.out, if_pos (.inr hl1)])
              (try go_wp2_with fail)
              go_roundw
              case rel => exact ⟨i + 1, by rw [HF2.out], by rw [HF2.out, HMx.out], by go_num, by omega, HB2.out⟩
              case measure => simp [intOf]; omega
            · have HF2 := Lib.hid (show F (i + 1) = (lo, mx) from by rw [HF.out, if_neg (by omega)])
              (try go_wp2_with fail)
              go_roundw
              case rel => exact ⟨i + 1, by rw [HF2.out], by rw [HF2.out, HMx.out], by go_num, by omega, HB2.out⟩
              case measure => simp [intOf]; omega
    · obtain rfl : n = i := by omega
      go_wp2_with fail
      go_ret2
      exact ⟨rfl, HB0.out.trans (HB.out.mono HB0.out.size)⟩
end Go.Proofs.YthfegbcbpeedbaaDoor
namespace Go.Ky
open Go.Nm
theorem foldl_max_ge : ∀ (L : List Int) (a : Int), a ≤ L.foldl max a
  | [], a => by simp
  | x :: L, a => by
    rw [List.foldl_cons]
    exact Int.le_trans (Int.le_max_left a x) (foldl_max_ge L (max a x))
/-- what state t leaves, 0 if it is not in the set -/
def oneN (m : Mx) (l : List Int) (c x t : Nat) : Int := if x / 2 ^ t % 2 = 1 then aloneN m l c t else 0
theorem spS_fold {m : Mx} {l : List Int} {c x : Nat} (hx : l[c]? = some (x : Int)) : ∀ s, (spS m l c s).2 = ((List.range s).map (oneN m l c x)).foldl max 0
  | 0 => rfl
  | s + 1 => by
    rw [List.range_succ, List.map_append, List.foldl_append, ← spS_fold hx s]
    have h0 : 0 ≤ (spS m l c s).2 := by rw [spS_fold hx s]; exact foldl_max_ge _ _
    rcases Nat.mod_two_eq_zero_or_one (x / 2 ^ s) with h | h
    · rw [spS_no hx h]
      simp only [List.map_cons, List.map_nil, List.foldl_cons, List.foldl_nil]
      unfold oneN
      rw [if_neg (by omega)]
      omega
    · rw [spS_yes hx h]
      simp only [List.map_cons, List.map_nil, List.foldl_cons, List.foldl_nil]
      unfold oneN
      rw [if_pos h]
theorem fold_more (f : Nat → Int) (n : Nat) : ∀ k, (∀ t, n ≤ t → t < n + k → f t = 0) → ((List.range (n + k)).map f).foldl max 0 = ((List.range n).map f).foldl max 0
  | 0, _ => rfl
  | k + 1, h => by
    rw [show n + (k + 1) = (n + k) + 1 from rfl, List.range_succ, List.map_append, List.foldl_append, fold_more f n k (fun t h1 h2 => h t h1 (by omega))]
    simp only [List.map_cons, List.map_nil, List.foldl_cons, List.foldl_nil]
    rw [h (n + k) (by omega) (by omega)]
    have := foldl_max_ge ((List.range n).map f) 0
    omega
theorem fits_iff {a l : List Int} : fitsF a l = true ↔ ∀ (i : Nat) (x y : Int), a[i]? = some x → l[i]? = some y → meetF x y ≠ 0 := by
  constructor
  · intro h i x y h1 h2
    exact fits_at h h1 h2
  · intro h
    unfold fitsF
    refine List.all_eq_true.2 fun p hp => decide_eq_true ?_
    obtain ⟨i, hi, e⟩ := List.getElem_of_mem hp
    have h2 : (a.zip l)[i]? = some p := by rw [← e]; exact List.getElem?_eq_getElem hi
    have h3 := List.getElem?_zip_eq_some.1 h2
    exact h i p.1 p.2 h3.1 h3.2
theorem meet_nat {x y : Nat} (hx : x ≤ 65535) (hy : y ≤ 65535) : meetF (x : Int) (y : Int) = ((x &&& y : Nat) : Int) :=
  (meet_range (x := (x : Int)) (y := (y : Int)) (by omega) (by omega)).2.2
theorem bit_iff (x t : Nat) : x.testBit t = true ↔ x / 2 ^ t % 2 = 1 := by
  rw [Nat.testBit_eq_decide_div_mod_eq, decide_eq_true_eq]
theorem meet_pow {y t : Nat} (hy : y ≤ 65535) (ht : t < 16) : meetF (y : Int) ((2 : Int) ^ t) ≠ 0 ↔ y.testBit t = true := by
  obtain ⟨p1, p2⟩ := pow16 (k := t) (by omega)
  have hp : (2 : Nat) ^ t ≤ 65535 := by
    have : (2 : Nat) ^ t ≤ 2 ^ 15 := Nat.pow_le_pow_right (by omega) (by omega)
    omega
  rw [show ((2 : Int) ^ t) = ((2 ^ t : Nat) : Int) from by simp, meet_nat hy hp]
  have e : ∀ j, (y &&& 2 ^ t).testBit j = (y.testBit j && decide (t = j)) := fun j => by rw [Nat.testBit_and, Nat.testBit_two_pow]
  constructor
  · intro h
    cases hb : y.testBit t with
    | true => rfl
    | false =>
      refine absurd ?_ h
      have h0 : y &&& 2 ^ t = 0 := Nat.eq_of_testBit_eq fun j => by
        rw [e j, Nat.zero_testBit]
        by_cases hj : t = j
        · subst hj; rw [hb]; rfl
        · rw [decide_eq_false hj, Bool.and_false]
      rw [h0]; rfl
  · intro h h0
    have h1 : y &&& 2 ^ t = 0 := by omega
    have h2 := e t
    rw [h1, Nat.zero_testBit, h, decide_eq_true rfl] at h2
    cases h2
/-- a row fits with one state alone if it fits and may have that state -/
theorem fits_set {a l : List Int} {c t x y : Nat} (hl : a[c]? = some (y : Int)) (hx : l[c]? = some (x : Int)) (hx1 : x ≤ 65535) (hy1 : y ≤ 65535) (ht : t < 16) (hb : x.testBit t = true) :
    fitsF a (l.set c (2 ^ t)) = (fitsF a l && bitB (meetF (a.getD c 0) (x : Int)) t) := by
  have hg : a.getD c 0 = (y : Int) := by rw [List.getD_eq_getElem?_getD, hl]; rfl
  have hc : c < l.length := (List.getElem?_eq_some_iff.1 hx).1
  have hbm : bitB (meetF (a.getD c 0) (x : Int)) t = y.testBit t := by
    unfold bitB
    rw [hg, meet_nat hy1 hx1]
    show (y &&& x).testBit t = _
    rw [Nat.testBit_and, hb, Bool.and_true]
  rw [hbm, Bool.eq_iff_iff, Bool.and_eq_true, fits_iff, fits_iff]
  constructor
  · intro h
    have h1 := h c _ _ hl (by rw [List.getElem?_set_self hc])
    have h2 := (meet_pow hy1 ht).1 h1
    refine ⟨fun i u v hu hv => ?_, h2⟩
    by_cases e : i = c
    · subst e
      rw [hl] at hu; injection hu with hu; subst hu
      rw [hx] at hv; injection hv with hv; subst hv
      rw [meet_nat hy1 hx1]
      intro h0
      have h0' : y &&& x = 0 := by omega
      have h3 : (y &&& x).testBit t = true := by rw [Nat.testBit_and, h2, hb]; rfl
      rw [h0'] at h3
      simp at h3
    · exact h i u v hu (by rw [List.getElem?_set_ne (fun e2 => e e2.symm)]; exact hv)
  · intro ⟨h, h2⟩ i u v hu hv
    by_cases e : i = c
    · subst e
      rw [hl] at hu; injection hu with hu; subst hu
      rw [List.getElem?_set_self hc] at hv; injection hv with hv; subst hv
      exact (meet_pow hy1 ht).2 h2
    · rw [List.getElem?_set_ne (fun e2 => e e2.symm)] at hv
      exact h i u v hu hv
end Go.Ky
namespace Go.Ky
open Go.Nm
theorem spS_worst {m : Mx} {l : List Int} {c : Nat} {q : Int} (hm : mxF m = true) (hl : setsF m.st l = true) (hq : m.st[c]? = some q) : (spS m l c q.toNat).2 = worstF (remL m.rows l) c (l.getD c 0) := by
  have hc : c < l.length := by rw [sets_len' hl]; exact (List.getElem?_eq_some_iff.1 hq).1
  obtain ⟨x, hx⟩ : ∃ x, l[c]? = some x := ⟨_, List.getElem?_eq_getElem hc⟩
  have hx1 := sets_range hm hl hx
  have hxf := sets_at hl hq hx
  obtain ⟨x, rfl⟩ : ∃ n : Nat, x = (n : Int) := ⟨x.toNat, by omega⟩
  have hq1 := (chr_ok (mx_all hm).1).2.2 c q hq
  obtain ⟨n, rfl⟩ : ∃ n : Nat, q = (n : Int) := ⟨q.toNat, by omega⟩
  rw [full_nat] at hxf
  have hpn : 1 ≤ 2 ^ n := Nat.one_le_two_pow
  have hxn : x < 2 ^ n := by omega
  rw [show (n : Int).toNat = n from rfl, spS_fold hx n]
  have hg : l.getD c 0 = (x : Int) := by rw [List.getD_eq_getElem?_getD, hx]; rfl
  rw [hg]
  unfold worstF
  have hrow : ∀ r ∈ m.rows, ∃ y : Nat, r.may[c]? = some (y : Int) ∧ y ≤ 65535 := fun r hr => by
    have hr2 := (mx_all hm).2.2 r hr
    have hcr : c < r.may.length := by rw [sets_len' hr2, ← sets_len' hl]; exact hc
    have h1 := sets_range hm hr2 (List.getElem?_eq_getElem hcr)
    exact ⟨(r.may[c]).toNat, by rw [List.getElem?_eq_getElem hcr]; congr 1; omega, by omega⟩
  have key : ∀ t, t < 16 → oneN m l c x t = cntR (remL m.rows l) c (x : Int) t := fun t ht => by
    unfold oneN cntR
    cases hb : x.testBit t with
    | true =>
      rw [if_pos ((bit_iff x t).1 hb)]
      unfold aloneN remL
      rw [List.filter_filter]
      congr 2
      refine List.filter_congr fun r hr => ?_
      obtain ⟨y, hy, hy1⟩ := hrow r hr
      rw [fits_set hy hx (by omega) hy1 ht hb, Bool.and_comm]
    | false =>
      rw [if_neg (fun h => by rw [(bit_iff x t).2 h] at hb; cases hb)]
      rw [List.filter_eq_nil_iff.2]
      · rfl
      · intro r hr h
        obtain ⟨y, hy, hy1⟩ := hrow r (List.mem_filter.1 hr).1
        have hgy : r.may.getD c 0 = (y : Int) := by rw [List.getD_eq_getElem?_getD, hy]; rfl
        unfold bitB at h
        rw [hgy, meet_nat hy1 (by omega)] at h
        have h2 : (y &&& x).testBit t = true := h
        rw [Nat.testBit_and, hb, Bool.and_false] at h2
        cases h2
  have hz : ∀ t, n ≤ t → t < n + (16 - n) → oneN m l c x t = 0 := fun t h1 h2 => by
    unfold oneN
    rw [if_neg]
    intro h
    have h3 : x < 2 ^ t := Nat.lt_of_lt_of_le hxn (Nat.pow_le_pow_right (by omega) h1)
    rw [Nat.div_eq_of_lt h3] at h
    cases h
  have h16 : n + (16 - n) = 16 := by omega
  have h1 := fold_more (oneN m l c x) n (16 - n) hz
  rw [h16] at h1
  rw [← h1]
  congr 1
  exact List.map_congr_left fun t ht => key t (List.mem_range.1 ht)
end Go.Ky
