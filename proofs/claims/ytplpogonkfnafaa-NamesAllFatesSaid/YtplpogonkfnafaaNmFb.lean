/- extend: the fates that begin with some names. -/
import Derived.Test.YtplpogonkfnafaaNmFa
namespace Go.Proofs.Ytplpogonkfnafaa
open Go.RowKit Go.Nm

/-- while a name is tried: what holds, by which operations are done -/
structure ExG (PreW MidW PostW : World → Prop) (hv bs bs2 yv : Value) (x : Int) (f0 : Nat → Value) (dn : Nat → Bool) (a : Act) (X : World) : Prop where
  sz : a.tmps.size = 36
  t0 : a.tmps.getD 0 undef = f0 0
  t1 : a.tmps.getD 1 undef = f0 1
  t2 : a.tmps.getD 2 undef = f0 2
  t3 : a.tmps.getD 3 undef = f0 3
  t4 : a.tmps.getD 4 undef = f0 4
  t5 : a.tmps.getD 5 undef = f0 5
  t6 : a.tmps.getD 6 undef = f0 6
  t7 : a.tmps.getD 7 undef = f0 7
  t8 : a.tmps.getD 8 undef = f0 8
  t9 : a.tmps.getD 9 undef = f0 9
  t10 : a.tmps.getD 10 undef = f0 10
  t11 : a.tmps.getD 11 undef = f0 11
  t12 : a.tmps.getD 12 undef = f0 12
  t13 : a.tmps.getD 13 undef = f0 13
  t14 : a.tmps.getD 14 undef = f0 14
  t15 : a.tmps.getD 15 undef = f0 15
  t16 : a.tmps.getD 16 undef = f0 16
  t17 : a.tmps.getD 17 undef = f0 17
  t18 : a.tmps.getD 18 undef = f0 18
  t19 : a.tmps.getD 19 undef = f0 19
  t20 : a.tmps.getD 20 undef = f0 20
  t21 : a.tmps.getD 21 undef = f0 21
  t22 : a.tmps.getD 22 undef = f0 22
  t23 : a.tmps.getD 23 undef = f0 23
  t24 : a.tmps.getD 24 undef = f0 24
  t25 : a.tmps.getD 25 undef = f0 25
  t26 : a.tmps.getD 26 undef = f0 26
  t35 : a.tmps.getD 35 undef = f0 35
  ds : a.defers = []
  pre : dn 4 = false → PreW X
  mid : dn 4 = true → dn 6 = false → MidW X
  fin : dn 6 = true → PostW X
  e0 : dn 0 = true → a.tmps.getD 27 undef = hv
  e1 : dn 1 = true → a.tmps.getD 28 undef = bs
  e2 : dn 2 = true → a.tmps.getD 29 undef = .int .i64 x
  e3 : dn 3 = true → dn 4 = false → ∃ q, a.tmps.getD 30 undef = .slice (some ⟨q, 0, none⟩) 1 1 ∧ X.heap[q]? = some (.cells #[.int .i64 x] 3)
  e4 : dn 4 = true → a.tmps.getD 31 undef = bs2
  e5 : dn 5 = true → a.tmps.getD 32 undef = yv
  e6 : dn 6 = true → a.tmps.getD 33 undef = .bool true
  e7 : dn 7 = true → a.tmps.getD 34 undef = .bool false
  o3 : dn 3 = true → dn 2 = true
  o4 : dn 4 = true → dn 1 = true ∧ dn 3 = true
  o6 : dn 6 = true → dn 0 = true ∧ dn 4 = true ∧ dn 5 = true
  o7 : dn 7 = true → dn 6 = true
theorem ExG.all {PreW MidW PostW : World → Prop} {hv bs bs2 yv : Value} {x : Int} {f0 : Nat → Value} {dn : Nat → Bool} {a : Act} {X : World} (h : ExG PreW MidW PostW hv bs bs2 yv x f0 dn a X) (hd : ∀ j, j < 8 → dn j = true) : ExG PreW MidW PostW hv bs bs2 yv x f0 (fun _ => true) a X :=
  ⟨h.sz, h.t0, h.t1, h.t2, h.t3, h.t4, h.t5, h.t6, h.t7, h.t8, h.t9, h.t10, h.t11, h.t12, h.t13, h.t14, h.t15, h.t16, h.t17, h.t18, h.t19, h.t20, h.t21, h.t22, h.t23, h.t24, h.t25, h.t26, h.t35, h.ds, (fun h => nomatch h), (fun _ h => nomatch h), fun _ => h.fin (hd 6 (by omega)), fun _ => h.e0 (hd 0 (by omega)), fun _ => h.e1 (hd 1 (by omega)), fun _ => h.e2 (hd 2 (by omega)), (fun _ h => nomatch h), fun _ => h.e4 (hd 4 (by omega)), fun _ => h.e5 (hd 5 (by omega)), fun _ => h.e6 (hd 6 (by omega)), fun _ => h.e7 (hd 7 (by omega)), fun _ => rfl, fun _ => ⟨rfl, rfl⟩, fun _ => ⟨rfl, rfl, rfl⟩, fun _ => rfl⟩
theorem append_in {o : Oper} {a : Act} {w : World} {K : Act → World → Prop} {Q : Exit → Act → World → Prop} (s x : Operand) (ho : o.op = .call { callee := .builtin .append, args := #[s, x], argTypes := #[22, 22] })
    (B g n N : Nat) (L : List Int) (y : Int) (hs : a.eval s = .slice (some ⟨g, 0, none⟩) n N) (hown : w.ownsRow B 3 1 (.slice (some ⟨g, 0, none⟩) n N) n (intsV L)) (q : Nat) (hx : a.eval x = .slice (some ⟨q, 0, none⟩) 1 1) (hc : w.heap[q]? = some (.cells #[.int .i64 y] 3)) (hn : n + 1 ≤ N)
    (h : ∀ w', w'.ownsRow B 3 1 (.slice (some ⟨g, 0, none⟩) (n + 1) N) (n + 1) (intsV (L ++ [y])) → w.grownBy w' (some g) → K (a.put o.dst (.slice (some ⟨g, 0, none⟩) (n + 1) N)) w') : o.wp Try.prog a w K Q := by
  obtain ⟨i0, hi0, hz0, hz1, hz2⟩ := infoI
  obtain ⟨w', hr, h2, h3⟩ := run_append_fits (P := Try.prog) (w := w) B 22 o.type 3 i0 1 Try.underlying22 hi0 hz1 g n N (intsV L) hown ⟨q, 0, none⟩ 1 1 [.int .i64 y] rfl
    (fun j u hj => by
      have e : (⟨q, 0, none⟩ : Addr).add j = ⟨q, j, none⟩ := by
        unfold Addr.add
        split
        · rename_i h; rw [h]
        · simp
      rw [e]
      simpa [World.cell?, hc] using hj) (fun u hu => by simp at hu; rw [hu]; rfl) hn
  unfold Oper.wp execOp
  simp only [ho, resolve, invoke, builtin, Sem.run_bind, Sem.run_pure, Result.andThen_ok, List.map_toArray, List.map_cons, List.map_nil, hs, hx, hr]
  refine h w' ?_ h3
  rw [intsV_append]; exact h2
theorem own_prefix {X : World} {B g n N : Nat} {L : List Int} {y : Int} (h : X.ownsRow B 3 1 (.slice (some ⟨g, 0, none⟩) (n + 1) N) (n + 1) (intsV (L ++ [y]))) (hn : L.length = n) : X.ownsRow B 3 1 (.slice (some ⟨g, 0, none⟩) n N) n (intsV L) := by
  refine ⟨by rw [intsV_len]; omega, ?_⟩
  rcases h.2 with ⟨e, _⟩ | ⟨g', cap, cur, e, hb, hg, h1, h2, h3, h4⟩
  · cases e
  · injection e with e1 e2 e3
    injection e1 with e1
    injection e1 with e1
    subst e1; subst e3
    refine .inr ⟨g, N, cur, rfl, hb, hg, by omega, h2, h3, ?_⟩
    have h5 : (cur.toList.take ((n + 1) * 1)).take n = intsV L := by
      rw [h4, intsV_append, List.take_append_of_le_length (by rw [intsV_len]; omega), List.take_of_length_le (by rw [intsV_len]; omega)]
    rw [List.take_take] at h5
    rw [← h5]
    congr 1
    omega
theorem furF_len {b : Bk} (hs : Sm b) (g : List Int) : (furF b g).length ≤ 1000 := by
  unfold furF
  split
  · exact hs.1
  · split
    · rename_i c hc
      split
      · exact (hs.2.2 c (List.mem_of_getElem? hc)).2
      · simp
    · simp
/-- what has been yielded when k names have been tried -/
def triedF (b : Bk) (d : Nat) (g : List Int) (k : Nat) : List (List Int) := ((furF b g).take k).flatMap fun x => fatesF b d (g ++ [x])
theorem triedF_next {b : Bk} {d : Nat} {g : List Int} {k : Nat} {x : Int} (h : (furF b g)[k]? = some x) : triedF b d g (k + 1) = triedF b d g k ++ fatesF b d (g ++ [x]) := by
  unfold triedF
  rw [List.take_add_one, h]
  simp
theorem triedF_all {b : Bk} {d : Nat} {g : List Int} : triedF b d g (furF b g).length = fatesF b (d + 1) g := by
  unfold triedF
  rw [List.take_length]; rfl
theorem triedF_len {b : Bk} {d : Nat} {g : List Int} {k : Nat} : (triedF b d g k).length ≤ (fatesF b (d + 1) g).length := by
  show (((furF b g).take k).flatMap _).length ≤ ((furF b g).flatMap fun x => fatesF b d (g ++ [x])).length
  conv => rhs; rw [← List.take_append_drop k (furF b g), List.flatMap_append, List.length_append]
  exact Nat.le_add_right _ _
set_option maxRecDepth 100000 in
set_option maxHeartbeats 16000000 in
theorem extend_any (V0 : World) (v vc : Value) (b : Bk) (B g l N M : Nat) (J : List (List Int × Value) → Option Nat → World → Prop) (hv : HsV V0 v b vc) (hsm : Sm b) (hval : Val b)
    (C : ExC Try.prog V0 B g l N M J) (hN : (vers b).length = N) (hs : N ≤ 1000) : ∀ (d : Nat) (g0 : List Int) (pre : List (List Int × Value)) (ow : Option Nat) (X : World), g0.length + d = N → J pre ow X → B ≤ X.heap.size →
    X.ownsRow B 3 1 (.slice (some ⟨g, 0, none⟩) g0.length N) g0.length (intsV g0) → pre.length + (fatesF b d g0).length ≤ M →
    Calls Try.prog 101 #[v, .slice (some ⟨g, 0, none⟩) g0.length N, .func (.yield l) #[] #[]] X (OutE b B g N d g0 J pre ow X) := by
  intro d
  induction d with
  | zero =>
    intro g0 pre ow X hl hj hB ho hM
    exact callsIn_wide.1 (extend_end V0 X v vc b B g l N M 4 g0 J pre ow hv C hj ho hN (by omega) (by simp [fatesF] at hM; omega) hs)
  | succ d ih =>
    intro g0 pre ow X hl hj hB ho hM
    have hvl := val_len hval
    have hlen : g0.length ≤ b.chs.length := by omega
    have HFu := Lib.hid (fun Y (hb : Below V0.heap.size V0 Y) (ho : Y.ownsRow B 3 1 (.slice (some ⟨g, 0, none⟩) g0.length N) g0.length (intsV g0)) =>
      further_any V0 Y v vc b g0 g N hv hsm hval hb (own_inA ho) hlen (by omega) (by omega))
    have IH := Lib.hid ih
    have HV := Lib.hid hv
    obtain ⟨vs, rfl, h1, h2⟩ := hv
    have e1 := h1.form
    rw [hN] at e1
    obtain ⟨Av, cv, rfl⟩ := e1
    obtain ⟨A2, c2, rfl⟩ := h2.form
    have hb0 := below_new (w := X) (.cells #[.slice Av N cv, .slice A2 b.chs.length c2] 67)
    have HN0 := Lib.hid (World.alloc_heap_new X (.cells #[.slice Av N cv, .slice A2 b.chs.length c2] 67))
    have HB0 := Lib.hid hb0
    have HJ0 := Lib.hid (C.below hj hb0)
    have HO0 := Lib.hid (own_step ho hb0)
    have HL := Lib.hid (And.intro hl (And.intro hM (ho.lt g rfl)))
    have HW := Lib.hid (C.low _ _ _ hj)
    have HC := Lib.hid C
    have HFl := Lib.hid (furF_len hsm g0)
    have hnN : g0.length < N := by omega
    have hsz := HB0.out.size
    clear h1 h2 hb0 hj ho C ih hl hM hvl hlen hval hsm
    obtain ⟨X1, hX1⟩ : ∃ X1, X.alloc (.cells #[.slice Av N cv, .slice A2 b.chs.length c2] 67) = X1 := ⟨_, rfl⟩
    rw [hX1] at HN0 HB0 HJ0 HO0 hsz
    obtain ⟨k0, k1⟩ := cells_two HN0.out
    have HF := Lib.hid (HFu.out X1 (HC.out.bel _ _ _ HJ0.out) HO0.out)
    obtain ⟨len, hlen⟩ : ∃ len, b.chs.length = len := ⟨_, rfl⟩
    rw [hlen] at hX1 HN0 k1 HF IH HV ⊢
    clear hlen HFu
    obtain ⟨n, hn⟩ : ∃ n, g0.length = n := ⟨_, rfl⟩
    have HGl := Lib.hid hn
    rw [hn] at HF HO0 HL hnN ⊢
    clear hn
    have hne : (n : Int) ≠ (N : Int) := by omega
    go_enter Try.func101, Try.ntmps101
    go_wp2_with fail
    (with_reducible refine HF.out.mono ?_)
    rintro e X2 ⟨⟨r, rfl, hr⟩, hb⟩
    have HRd := Lib.hid (show ∃ A m c, r = .slice A m c ∧ (furF b g0).length = m ∧ ∀ Y, Below V0.heap.size V0 Y → Y.ownsRow B 3 1 (.slice (some ⟨g, 0, none⟩) n N) n (intsV g0) → InA Y Y.heap.size A (furF b g0) from by
      rcases hr with ⟨A, c, e, _, _, h⟩ | ⟨k, c, x, hk, e, _, hF, hx⟩
      · exact ⟨A, _, c, e, rfl, fun Y hb _ => (h.below hb).mono hb.size⟩
      · refine ⟨_, _, c, e, by rw [hF]; rfl, fun Y _ ho => ?_⟩
        rw [hF]
        intro i y hy
        have hi : i = 0 := by have := (List.getElem?_eq_some_iff.1 hy).1; simp at this; omega
        subst hi
        simp at hy
        subst hy
        have hgY := (ho.lt g rfl).2
        refine ⟨_, rfl, hgY, ?_⟩
        have hc := (own_inA (L := g0) ho) k x hx
        obtain ⟨ad, ea, _, hc⟩ := hc
        injection ea with ea
        subst ea
        rw [off_add] at hc
        rw [add_zero']
        exact hc)
    obtain ⟨A, m, c, rfl, hm, HR⟩ := HRd.out
    have HR := Lib.hid HR
    have HJ2 := Lib.hid (HC.out.below HJ0.out hb)
    have HO2 := Lib.hid (own_step HO0.out hb)
    have HK2 := Lib.hid (show KB B ow g X X2 from ((KA.of_below (B := B) (ow := ow) HB0.out).trans (KA.of_below hb)).kb g)
    have HN2 := Lib.hid (And.intro (HB0.out.size) (And.intro hb.size (And.intro ((hb.cell (p := ⟨X.heap.size, 0, none⟩) (Array.getElem?_eq_some_iff.1 HN0.out).1).trans k0) ((hb.cell (p := ⟨X.heap.size, 1, none⟩) (Array.getElem?_eq_some_iff.1 HN0.out).1).trans k1))))
    have hm1 : m ≤ 1000 := by have := HFl.out; omega
    have hBX : B ≤ X.heap.size := by have := HL.out.2.2; omega
    have HXl := Lib.hid (Array.getElem?_eq_some_iff.1 HN0.out).1
    have HM := Lib.hid hm
    have hneb : ((n : Int) == (N : Int)) = false := by simpa using hne
    clear hr hb HRd k0 k1 HF HO0 HJ0 HN0 hX1 HFl hm hsz hne
    simp only [hneb]
    clear hneb
    go_wp2_with fail
    go_loopw [23] (fun iv wr => ∃ (k : Nat) (us : List (List Int × Value)) (ow' : Option Nat), iv = .int .i64 (k : Int) ∧ k ≤ m ∧ us.map (·.1) = triedF b d g0 k ∧ J (pre ++ us) ow' wr ∧ Grows ow ow' X2 ∧ KB B ow g X wr ∧ KB B ow g X2 wr ∧ wr.ownsRow B 3 1 (.slice (some ⟨g, 0, none⟩) n N) n (intsV g0)) (fun iv _ => m - (intOf iv).toNat)
    case atStart => exact ⟨0, [], ow, rfl, by omega, by simp [triedF], by rw [List.append_nil]; exact HJ2.out, Grows.refl _ _, HK2.out, KB.refl _ _ _ _, HO2.out⟩
    case round =>
      obtain ⟨k, us, ow', rfl, hkm, hus, hj, hgr, hkb, hkb2, ho⟩ := hrel
      have HI := Lib.hid (And.intro hus (And.intro hj (And.intro hgr (And.intro hkb (And.intro hkb2 ho)))))
      clear hus hj hgr hkb hkb2 ho
      by_cases hlt : k < m
      · obtain ⟨x, ad, hx, rfl, hbd, hcx⟩ := (HR.out wr (HC.out.bel _ _ _ HI.out.2.1) HI.out.2.2.2.2.2).at_ HM.out hlt
        have HX := Lib.hid hx
        have hk0 : wr.cell? ⟨X.heap.size, 0, none⟩ = some (.slice Av N cv) := HI.out.2.2.2.2.1.cell HN2.out.2.2.1 hBX (fun e => absurd (HW.out _ e.symm).1 (Nat.lt_irrefl _)) (by show X.heap.size ≠ g; have := HL.out.2.2.2; omega)
        have hk1 : wr.cell? ⟨X.heap.size, 1, none⟩ = some (.slice A2 len c2) := HI.out.2.2.2.2.1.cell HN2.out.2.2.2 hBX (fun e => absurd (HW.out _ e.symm).1 (Nat.lt_irrefl _)) (by show X.heap.size ≠ g; have := HL.out.2.2.2; omega)
        have HCx := Lib.hid (And.intro hk0 hk1)
        clear hx hbd hk0 hk1
        go_wp2_with fail
        obtain ⟨PreW, hPre⟩ : ∃ P : World → Prop, P = fun Y => wr.grownBy Y (some g) ∧ Y.ownsRow B 3 1 (.slice (some ⟨g, 0, none⟩) n N) n (intsV g0) := ⟨_, rfl⟩
        obtain ⟨MidW, hMid⟩ : ∃ P : World → Prop, P = fun Y => wr.grownBy Y (some g) ∧ Y.ownsRow B 3 1 (.slice (some ⟨g, 0, none⟩) (n + 1) N) (n + 1) (intsV (g0 ++ [x])) := ⟨_, rfl⟩
        obtain ⟨PostW, hPost⟩ : ∃ P : World → Prop, P = fun Y => ∃ us2 ow2, us2.map (·.1) = fatesF b d (g0 ++ [x]) ∧ J ((pre ++ us) ++ us2) ow2 Y ∧ Grows ow' ow2 wr ∧ KB B ow' g wr Y ∧ Y.ownsRow B 3 1 (.slice (some ⟨g, 0, none⟩) n N) n (intsV g0) := ⟨_, rfl⟩
        have hgs : wr.grownBy wr.drew (some g) := ⟨rfl, rfl, rfl, Nat.le_refl _, fun _ _ _ => rfl⟩
        have HPr0 := Lib.hid (show PreW wr.drew from by rw [hPre]; exact ⟨hgs, HI.out.2.2.2.2.2⟩)
        have HPw := Lib.hid (show ∀ Y, PreW Y → Y.ownsRow B 3 1 (.slice (some ⟨g, 0, none⟩) n N) n (intsV g0) from fun Y h => by rw [hPre] at h; exact h.2)
        have HAl := Lib.hid (show ∀ Y, PreW Y → ∀ o, PreW (Y.alloc o) from fun Y h o => by rw [hPre] at h ⊢; exact ⟨h.1.trans (World.grownBy_alloc _ o _), h.2.alloc o⟩)
        have HMd := Lib.hid (show ∀ Y Y', PreW Y → Y'.ownsRow B 3 1 (.slice (some ⟨g, 0, none⟩) (n + 1) N) (n + 1) (intsV (g0 ++ [x])) → Y.grownBy Y' (some g) → MidW Y' from fun Y Y' h ho hg => by rw [hPre] at h; rw [hMid]; exact ⟨h.1.trans hg, ho⟩)
        have hbne : X.heap.size ≠ g := by have := HL.out.2.2.2; omega
        have hbl : X.heap.size < wr.heap.size := by have := HI.out.2.2.2.2.1.size; have := HN2.out.2.1; have := HXl.out; omega
        have HBox := Lib.hid (show ∀ Y, PreW Y ∨ MidW Y → Y.cell? ⟨X.heap.size, 0, none⟩ = some (.slice Av N cv) ∧ Y.cell? ⟨X.heap.size, 1, none⟩ = some (.slice A2 len c2) from fun Y h => by
          have hg : wr.grownBy Y (some g) := by rcases h with h | h; exact (hPre ▸ h).1; exact (hMid ▸ h).1
          have hk : Y.heap[X.heap.size]? = wr.heap[X.heap.size]? := hg.block _ hbl (fun e => hbne (by cases e; rfl))
          exact ⟨(World.cell?_of_block (w := wr) hk).trans HCx.out.1, (World.cell?_of_block (w := wr) hk).trans HCx.out.2⟩)
        have HnN := Lib.hid (show n + 1 ≤ N from hnN)
        have HCall := Lib.hid (show ∀ Y, MidW Y → Calls Try.prog 101 #[.agg #[.slice Av N cv, .slice A2 len c2], .slice (some ⟨g, 0, none⟩) (n + 1) N, .func (.yield l) #[] #[]] Y (fun e Y' => e = .returned (.bool true) ∧ PostW Y') from fun Y h => by
          rw [hMid] at h
          obtain ⟨hg, ho⟩ := h
          have hl1 : (g0 ++ [x]).length = n + 1 := by rw [List.length_append, HGl.out]; rfl
          have hM1 : (pre ++ us).length + (fatesF b d (g0 ++ [x])).length ≤ M := by
            have h1 := triedF_next (d := d) HX.out
            have h2 := triedF_len (b := b) (d := d) (g := g0) (k := k + 1)
            rw [h1, List.length_append] at h2
            have h3 : us.length = (triedF b d g0 k).length := by rw [← HI.out.1, List.length_map]
            have := HL.out.2.1
            rw [List.length_append]; omega
          have hc := IH.out (g0 ++ [x]) (pre ++ us) ow' Y (by rw [hl1]; have := HL.out.1; omega) (HC.out.keep _ _ _ _ HI.out.2.1 hg) (by have := hg.size; omega) (by rw [hl1]; exact ho) hM1
          rw [hl1] at hc
          refine hc.mono ?_
          rintro e Y' ⟨rfl, us2, ow2, h1, h2, h3, h4, h5⟩
          refine ⟨rfl, ?_⟩
          rw [hPost]
          refine ⟨us2, ow2, h1, h2, ?_, (KB.of_grown hg).trans (Grows.refl _ _) h4, own_prefix (by rw [hl1] at h5; exact h5) HGl.out⟩
          rcases h3 with h | ⟨j, h, hj⟩
          · exact .inl h
          · exact .inr ⟨j, h, by have := hg.size; omega⟩)
        have HPost := Lib.hid hPost
        have HGX := Lib.hid (show Grows ow ow' X from by
          rcases HI.out.2.2.1 with h | ⟨j, h, hj⟩
          · exact .inl h
          · exact .inr ⟨j, h, by have := HN2.out.1; have := HN2.out.2.1; omega⟩)
        clear hMid hPre hgs hPost
        refine wp_mono (Q := onlyN (fun a' Y => ExG PreW MidW PostW (.agg #[.slice Av N cv, .slice A2 len c2]) (.slice (some ⟨g, 0, none⟩) n N) (.slice (some ⟨g, 0, none⟩) (n + 1) N) (.func (.yield l) #[] #[]) x (fun kk => (#[.agg #[.slice Av N cv, .slice A2 len c2], .slice (some ⟨g, 0, none⟩) n N, .func (.yield l) #[] #[], .pointer (some ⟨X.heap.size, 0, none⟩), undef, undef, u6, undef, .int .i64 x, .slice (some ⟨g, 0, none⟩) n N, .int .i64 (n : Int), .pointer (some ⟨X.heap.size, 0, none⟩), .slice Av N cv, .int .i64 (N : Int), .bool false, undef, undef, undef, undef, .agg #[.slice Av N cv, .slice A2 len c2], .slice (some ⟨g, 0, none⟩) n N, .slice (some ad) m c, .int .i64 (m : Int), .int .i64 (k : Int), .bool true, .pointer (some (ad.add k)), .int .i64 x, u27, u28, u29, u30, u31, u32, u33, u34, u35] : Array Value).getD kk undef) (fun _ => true) a' Y)) ?_ ?_
        · refine wp_region_done (ExG PreW MidW PostW (.agg #[.slice Av N cv, .slice A2 len c2]) (.slice (some ⟨g, 0, none⟩) n N) (.slice (some ⟨g, 0, none⟩) (n + 1) N) (.func (.yield l) #[] #[]) x (fun kk => (#[.agg #[.slice Av N cv, .slice A2 len c2], .slice (some ⟨g, 0, none⟩) n N, .func (.yield l) #[] #[], .pointer (some ⟨X.heap.size, 0, none⟩), undef, undef, u6, undef, .int .i64 x, .slice (some ⟨g, 0, none⟩) n N, .int .i64 (n : Int), .pointer (some ⟨X.heap.size, 0, none⟩), .slice Av N cv, .int .i64 (N : Int), .bool false, undef, undef, undef, undef, .agg #[.slice Av N cv, .slice A2 len c2], .slice (some ⟨g, 0, none⟩) n N, .slice (some ad) m c, .int .i64 (m : Int), .int .i64 (k : Int), .bool true, .pointer (some (ad.add k)), .int .i64 x, u27, u28, u29, u30, u31, u32, u33, u34, u35] : Array Value).getD kk undef)) (by kernel_rfl) (by kernel_rfl) ?_ ?_ ?_
          · exact ⟨rfl, rfl, rfl, rfl, rfl, rfl, rfl, rfl, rfl, rfl, rfl, rfl, rfl, rfl, rfl, rfl, rfl, rfl, rfl, rfl, rfl, rfl, rfl, rfl, rfl, rfl, rfl, rfl, rfl, rfl, (fun _ => HPr0.out), (fun h => nomatch h), (fun h => nomatch h), (fun h => nomatch h), (fun h => nomatch h), (fun h => nomatch h), (fun h => nomatch h), (fun h => nomatch h), (fun h => nomatch h), (fun h => nomatch h), (fun h => nomatch h), (fun h => nomatch h), (fun h => nomatch h), (fun h => nomatch h), (fun h => nomatch h)⟩
          · intro dn j o hi hd hD a Y hG
            obtain ⟨tm, ds⟩ := a
            obtain ⟨hsz, t0, t1, t2, t3, t4, t5, t6, t7, t8, t9, t10, t11, t12, t13, t14, t15, t16, t17, t18, t19, t20, t21, t22, t23, t24, t25, t26, t35, hds, pre, mid, fin, e0, e1, e2, e3, e4, e5, e6, e7, o3, o4, o6, o7⟩ := hG
            obtain ⟨fn, rfl⟩ := arr36 hsz
            have hj8 : j < 8 := by
              have := (Array.getElem?_eq_some_iff.1 hi).1
              simpa using this
            simp [Array.getD] at t0 t1 t2 t3 t4 t5 t6 t7 t8 t9 t10 t11 t12 t13 t14 t15 t16 t17 t18 t19 t20 t21 t22 t23 t24 t25 t26 t35
            rcases (show j = 0 ∨ j = 1 ∨ j = 2 ∨ j = 3 ∨ j = 4 ∨ j = 5 ∨ j = 6 ∨ j = 7 by omega) with rfl | rfl | rfl | rfl | rfl | rfl | rfl | rfl
            · obtain rfl := Option.some.inj hi
              have n6 : dn 6 = false := by
                cases h : dn 6
                · rfl
                · have := o6 h
                  simp_all
              have hbx : Y.cell? ⟨X.heap.size, 0, none⟩ = some (.slice Av N cv) ∧ Y.cell? ⟨X.heap.size, 1, none⟩ = some (.slice A2 len c2) := by
                cases h : dn 4
                · exact HBox.out Y (.inl (pre h))
                · exact HBox.out Y (.inr (mid h n6))
              obtain ⟨q0, q1⟩ := hbx
              refine wpOp_bare hi rfl ?_
              go_simp
              exact ⟨rfl, rfl, rfl, rfl, rfl, rfl, rfl, rfl, rfl, rfl, rfl, rfl, rfl, rfl, rfl, rfl, rfl, rfl, rfl, rfl, rfl, rfl, rfl, rfl, rfl, rfl, rfl, rfl, rfl, hds, pre, mid, fin, (fun _ => rfl), e1, e2, e3, e4, e5, e6, e7, o3, o4, (fun h => ⟨rfl, (o6 h).2⟩), o7⟩
            · obtain rfl := Option.some.inj hi
              refine wpOp_bare hi rfl ?_
              go_simp
              exact ⟨rfl, rfl, rfl, rfl, rfl, rfl, rfl, rfl, rfl, rfl, rfl, rfl, rfl, rfl, rfl, rfl, rfl, rfl, rfl, rfl, rfl, rfl, rfl, rfl, rfl, rfl, rfl, rfl, rfl, hds, pre, mid, fin, e0, (fun _ => rfl), e2, e3, e4, e5, e6, e7, o3, (fun h => ⟨rfl, (o4 h).2⟩), o6, o7⟩
            · obtain rfl := Option.some.inj hi
              refine wpOp_bare hi rfl ?_
              go_simp
              exact ⟨rfl, rfl, rfl, rfl, rfl, rfl, rfl, rfl, rfl, rfl, rfl, rfl, rfl, rfl, rfl, rfl, rfl, rfl, rfl, rfl, rfl, rfl, rfl, rfl, rfl, rfl, rfl, rfl, rfl, hds, pre, mid, fin, e0, e1, (fun _ => rfl), e3, e4, e5, e6, e7, (fun _ => rfl), o4, o6, o7⟩
            · obtain rfl := Option.some.inj hi
              have n4 : dn 4 = false := by
                cases h : dn 4
                · rfl
                · have := o4 h
                  simp_all
              have n6 : dn 6 = false := by
                cases h : dn 6
                · rfl
                · have := o6 h
                  simp_all
              have d2 := e2 (hD ⟨2, .data⟩ (by simp) rfl)
              simp [Array.getD] at d2
              refine wpOp_bare hi rfl ?_
              go_simp
              exact ⟨rfl, rfl, rfl, rfl, rfl, rfl, rfl, rfl, rfl, rfl, rfl, rfl, rfl, rfl, rfl, rfl, rfl, rfl, rfl, rfl, rfl, rfl, rfl, rfl, rfl, rfl, rfl, rfl, rfl, hds, (fun _ => HAl.out Y (pre n4) _), (fun h => absurd (n4.symm.trans h) (by decide)), (fun h => absurd (n6.symm.trans h) (by decide)), e0, e1, (fun _ => rfl), (fun _ _ => ⟨_, rfl, World.alloc_heap_new Y _⟩), e4, e5, e6, e7, (fun _ => hD ⟨2, .data⟩ (by simp) rfl), (fun h => ⟨(o4 h).1, rfl⟩), o6, o7⟩
            · obtain rfl := Option.some.inj hi
              have n6 : dn 6 = false := by
                cases h : dn 6
                · rfl
                · exact absurd (hd.symm.trans (o6 h).2.1) (by decide)
              have d1 := e1 (hD ⟨1, .data⟩ (by simp) rfl)
              simp [Array.getD] at d1
              obtain ⟨q3, d3, hq3⟩ := e3 (hD ⟨3, .data⟩ (by simp) rfl) hd
              simp [Array.getD] at d3
              refine wpOp_bare hi rfl ?_
              refine append_in (.tmp 28) (.tmp 30) rfl B g n N g0 x d1 (HPw.out Y (pre hd)) q3 d3 hq3 HnN.out ?_
              intro Y' ho hg
              exact ⟨rfl, t0, t1, t2, t3, t4, t5, t6, t7, t8, t9, t10, t11, t12, t13, t14, t15, t16, t17, t18, t19, t20, t21, t22, t23, t24, t25, t26, t35, hds, (fun h => nomatch h), (fun _ _ => HMd.out Y Y' (pre hd) ho hg), (fun h => absurd (n6.symm.trans h) (by decide)), e0, e1, e2, (fun _ h => nomatch h), (fun _ => rfl), e5, e6, e7, o3, (fun _ => ⟨hD ⟨1, .data⟩ (by simp) rfl, hD ⟨3, .data⟩ (by simp) rfl⟩), (fun h => ⟨(o6 h).1, rfl, (o6 h).2.2⟩), o7⟩
            · obtain rfl := Option.some.inj hi
              refine wpOp_bare hi rfl ?_
              go_simp
              exact ⟨rfl, rfl, rfl, rfl, rfl, rfl, rfl, rfl, rfl, rfl, rfl, rfl, rfl, rfl, rfl, rfl, rfl, rfl, rfl, rfl, rfl, rfl, rfl, rfl, rfl, rfl, rfl, rfl, rfl, hds, pre, mid, fin, e0, e1, e2, e3, e4, (fun _ => rfl), e6, e7, o3, o4, (fun h => ⟨(o6 h).1, (o6 h).2.1, rfl⟩), o7⟩
            · obtain rfl := Option.some.inj hi
              have y4 := hD ⟨4, .data⟩ (by simp) rfl
              have d0 := e0 (hD ⟨0, .data⟩ (by simp) rfl)
              simp [Array.getD] at d0
              have d4 := e4 (hD ⟨4, .data⟩ (by simp) rfl)
              simp [Array.getD] at d4
              have d5 := e5 (hD ⟨5, .data⟩ (by simp) rfl)
              simp [Array.getD] at d5
              have HC := Lib.hid (HCall.out Y (mid y4 hd))
              refine wpOp_bare hi rfl ?_
              go_simp
              (with_reducible refine HC.out.mono ?_)
              rintro e Y' ⟨rfl, hP⟩
              exact ⟨rfl, rfl, rfl, rfl, rfl, rfl, rfl, rfl, rfl, rfl, rfl, rfl, rfl, rfl, rfl, rfl, rfl, rfl, rfl, rfl, rfl, rfl, rfl, rfl, rfl, rfl, rfl, rfl, rfl, hds, (fun h => absurd (y4.symm.trans h) (by decide)), (fun _ h => nomatch h), (fun _ => hP), (fun _ => rfl), e1, e2, (fun _ h => absurd (y4.symm.trans h) (by decide)), (fun _ => rfl), (fun _ => rfl), (fun _ => rfl), (fun h => absurd (hd.symm.trans (o7 h)) (by decide)), o3, o4, (fun _ => ⟨hD ⟨0, .data⟩ (by simp) rfl, y4, hD ⟨5, .data⟩ (by simp) rfl⟩), (fun h => rfl)⟩
            · obtain rfl := Option.some.inj hi
              have d6 := e6 (hD ⟨6, .data⟩ (by simp) rfl)
              simp [Array.getD] at d6
              refine wpOp_bare hi rfl ?_
              go_simp
              exact ⟨rfl, rfl, rfl, rfl, rfl, rfl, rfl, rfl, rfl, rfl, rfl, rfl, rfl, rfl, rfl, rfl, rfl, rfl, rfl, rfl, rfl, rfl, rfl, rfl, rfl, rfl, rfl, rfl, rfl, hds, pre, mid, fin, e0, e1, e2, e3, e4, e5, (fun _ => rfl), (fun _ => rfl), o3, o4, o6, (fun _ => hD ⟨6, .data⟩ (by simp) rfl)⟩
          · intro dn a Y hdn hG
            exact hG.all fun j hj => hdn j (by simpa using hj)
        · rintro e ⟨tm, ds⟩ Y h
          cases e with
          | normal =>
            obtain ⟨hsz, t0, t1, t2, t3, t4, t5, t6, t7, t8, t9, t10, t11, t12, t13, t14, t15, t16, t17, t18, t19, t20, t21, t22, t23, t24, t25, t26, t35, hds, pre, mid, fin, e0, e1, e2, e3, e4, e5, e6, e7, o3, o4, o6, o7⟩ := h
            obtain ⟨fn, rfl⟩ := arr36 hsz
            have hds' : ds = [] := hds
            subst hds'
            have HP := Lib.hid (fin rfl)
            clear fin
            have t0' : fn 0 = .agg #[.slice Av N cv, .slice A2 len c2] := t0
            have t1' : fn 1 = .slice (some ⟨g, 0, none⟩) n N := t1
            have t2' : fn 2 = .func (.yield l) #[] #[] := t2
            have t3' : fn 3 = .pointer (some ⟨X.heap.size, 0, none⟩) := t3
            have t4' : fn 4 = undef := t4
            have t5' : fn 5 = undef := t5
            have t6' : fn 6 = u6 := t6
            have t7' : fn 7 = undef := t7
            have t8' : fn 8 = .int .i64 x := t8
            have t9' : fn 9 = .slice (some ⟨g, 0, none⟩) n N := t9
            have t10' : fn 10 = .int .i64 (n : Int) := t10
            have t11' : fn 11 = .pointer (some ⟨X.heap.size, 0, none⟩) := t11
            have t12' : fn 12 = .slice Av N cv := t12
            have t13' : fn 13 = .int .i64 (N : Int) := t13
            have t14' : fn 14 = .bool false := t14
            have t15' : fn 15 = undef := t15
            have t16' : fn 16 = undef := t16
            have t17' : fn 17 = undef := t17
            have t18' : fn 18 = undef := t18
            have t19' : fn 19 = .agg #[.slice Av N cv, .slice A2 len c2] := t19
            have t20' : fn 20 = .slice (some ⟨g, 0, none⟩) n N := t20
            have t21' : fn 21 = .slice (some ad) m c := t21
            have t22' : fn 22 = .int .i64 (m : Int) := t22
            have t23' : fn 23 = .int .i64 (k : Int) := t23
            have t24' : fn 24 = .bool true := t24
            have t25' : fn 25 = .pointer (some (ad.add k)) := t25
            have t26' : fn 26 = .int .i64 x := t26
            have t35' : fn 35 = u35 := t35
            have t33' : fn 33 = .bool true := e6 rfl
            have t34' : fn 34 = .bool false := e7 rfl
            rw [t33', t34', t0', t1', t2', t3', t4', t5', t6', t7', t8', t9', t10', t11', t12', t13', t14', t15', t16', t17', t18', t19', t20', t21', t22', t23', t24', t25', t26', t35']
            clear t0' t0 t1' t1 t2' t2 t3' t3 t4' t4 t5' t5 t6' t6 t7' t7 t8' t8 t9' t9 t10' t10 t11' t11 t12' t12 t13' t13 t14' t14 t15' t15 t16' t16 t17' t17 t18' t18 t19' t19 t20' t20 t21' t21 t22' t22 t23' t23 t24' t24 t25' t25 t26' t26 t35' t35 t33' t34' e0 e1 e2 e3 e4 e5 e6 e7 o3 o4 o6 o7 pre mid hsz hds
            simp only [Exit.then]
            rw [HPost.out] at HP
            obtain ⟨us2, ow2, q1, q2, q3, q4, q5⟩ := HP.out
            have HQ := Lib.hid (show (us ++ us2).map (·.1) = triedF b d g0 (k + 1) ∧ J (pre ++ (us ++ us2)) ow2 Y ∧ Grows ow ow2 X2 ∧ KB B ow g X Y ∧ KB B ow g X2 Y ∧ Y.ownsRow B 3 1 (.slice (some ⟨g, 0, none⟩) n N) n (intsV g0) from
              ⟨by rw [List.map_append, HI.out.1, q1, triedF_next HX.out], by rw [← List.append_assoc]; exact q2, HI.out.2.2.1.trans q3 HI.out.2.2.2.2.1.size, HI.out.2.2.2.1.trans HGX.out q4,
                HI.out.2.2.2.2.1.trans HI.out.2.2.1 q4, q5⟩)
            clear q1 q2 q3 q4 q5 HP HPost HPr0 HPw HAl HMd HBox HCall HCx HI
            go_wp2_with fail
            go_roundw
            case rel => exact ⟨k + 1, us ++ us2, ow2, by go_num, by omega, HQ.out⟩
            case measure => simp [intOf]; omega
          | _ => exact h.elim
      · have hk : k = m := by omega
        subst hk
        have HE := Lib.hid (show OutE b B g N (d + 1) g0 J pre ow X (.returned (.bool true)) wr from by
          refine OutE.mk (us := us) (ow' := ow') ?_ HI.out.2.1 (by
            rcases HI.out.2.2.1 with h | ⟨j, h, hj⟩
            · exact .inl h
            · exact .inr ⟨j, h, by have := HN2.out.1; have := HN2.out.2.1; omega⟩) HI.out.2.2.2.1 (by rw [HGl.out]; exact HI.out.2.2.2.2.2)
          rw [HI.out.1, ← HM.out]
          exact triedF_all)
        go_wp2_with fail
        go_ret
        exact HE.out
end Go.Proofs.Ytplpogonkfnafaa
