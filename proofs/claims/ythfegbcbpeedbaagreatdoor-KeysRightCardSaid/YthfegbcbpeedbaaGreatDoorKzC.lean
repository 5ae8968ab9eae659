/- Confused of the reference. -/
import Derived.Test.YthfegbcbpeedbaaGreatDoorKzA
import Derived.Test.YthfegbcbpeedbaaGreatDoorKyCi
import Derived.Test.YthfegbcbpeedbaaGreatDoorKyCk
namespace Go.Ky
open Go.Nm
open Go.Proofs.YthfegbcbpeedbaaGreatDoor (updP)
theorem all_len {lv : List (List Int)} (h : ∀ L ∈ lv, L.length ≤ 1000) : ∀ i, (allF lv i).length ≤ i * 1000
  | 0 => Nat.zero_le _
  | i + 1 => by
    have ih := all_len h i
    cases hL : lv[i]? with
    | none =>
      have e : allF lv (i + 1) = allF lv i := by unfold allF; rw [show lv.take (i + 1) = lv.take i from by rw [List.take_add_one, hL]; exact List.append_nil _]
      rw [e]; exact Nat.le_trans ih (Nat.mul_le_mul_right 1000 (Nat.le_succ i))
    | some L =>
      rw [all_next hL]
      have h1 := mrg_len (allF lv i) L
      have h2 := h L (List.mem_of_getElem? hL)
      omega
theorem with_len {lv : List (List Int)} (h : ∀ L ∈ lv, L.length ≤ 1000) (a : Int) : ∀ i, (withF lv a i).length ≤ i * 1000
  | 0 => Nat.zero_le _
  | i + 1 => by
    have ih := with_len h a i
    cases hL : lv[i]? with
    | none =>
      have e : withF lv a (i + 1) = withF lv a i := by unfold withF; rw [show lv.take (i + 1) = lv.take i from by rw [List.take_add_one, hL]; exact List.append_nil _]
      rw [e]; exact Nat.le_trans ih (Nat.mul_le_mul_right 1000 (Nat.le_succ i))
    | some L =>
      cases hh : hasF L a with
      | false => rw [with_no hL hh]; exact Nat.le_trans ih (Nat.mul_le_mul_right 1000 (Nat.le_succ i))
      | true =>
        rw [with_yes hL hh]
        have h1 := mrg_len (withF lv a i) L
        have h2 := h L (List.mem_of_getElem? hL)
        omega
end Go.Ky
namespace Go.Proofs.YthfegbcbpeedbaaGreatDoor
open Go.RowKit Go.Nm Go.Ky Go.Maps

/-- an append of a pair of numbers -/
structure CnJ (V : World) (ov nv : Value) (p q : Nat) (pa pb : Addr) (wv : Value) (a b : Int) (S : Value → World → Prop) (dn : Nat → Bool) (val : Nat → Value) (X : World) : Prop where
  s0 : dn 0 = true → val 0 = ov
  s1 : dn 1 = true → val 1 = nv
  s2 : dn 2 = true → val 2 = .int .i64 (p : Int)
  s3 : dn 3 = true → val 3 = .pointer (some pa)
  s4 : dn 4 = true → val 4 = .int .i64 a
  s5 : dn 5 = true → val 5 = wv
  s6 : dn 6 = true → val 6 = .int .i64 (q : Int)
  s7 : dn 7 = true → val 7 = .pointer (some pb)
  s8 : dn 8 = true → val 8 = .int .i64 b
  bel : dn 11 = false → Below V.heap.size V X
  e9 : dn 9 = true → dn 11 = false → ∃ g, V.heap.size ≤ g ∧ val 9 = .slice (some ⟨g, 0, none⟩) 2 2 ∧ X.heap[g]? = some (.cells #[.int .i64 a, .int .i64 b] 3)
  e10 : dn 10 = true → dn 11 = false → ∃ g g2, V.heap.size ≤ g ∧ val 10 = .slice (some ⟨g2, 0, none⟩) 1 1 ∧ X.heap[g2]? = some (.cells #[.slice (some ⟨g, 0, none⟩) 2 2] 22) ∧ X.heap[g]? = some (.cells #[.int .i64 a, .int .i64 b] 3)
  e11 : dn 11 = true → S (val 11) X
  e12 : dn 12 = true → dn 11 = true ∧ val 12 = val 11
section
variable {V : World} {ov nv : Value} {p q : Nat} {pa pb : Addr} {wv : Value} {a b : Int} {S : Value → World → Prop} {dn : Nat → Bool} {val : Nat → Value} {X Y : World}
theorem CnJ.op0 (h : CnJ V ov nv p q pa pb wv a b S dn val X) : CnJ V ov nv p q pa pb wv a b S (andB dn 0) (updV val 0 (ov)) X :=
  ⟨(fun _ => rfl), h.s1, h.s2, h.s3, h.s4, h.s5, h.s6, h.s7, h.s8, h.bel, h.e9, h.e10, h.e11, h.e12⟩
theorem CnJ.op1 (h : CnJ V ov nv p q pa pb wv a b S dn val X) : CnJ V ov nv p q pa pb wv a b S (andB dn 1) (updV val 1 (nv)) X :=
  ⟨h.s0, (fun _ => rfl), h.s2, h.s3, h.s4, h.s5, h.s6, h.s7, h.s8, h.bel, h.e9, h.e10, h.e11, h.e12⟩
theorem CnJ.op2 (h : CnJ V ov nv p q pa pb wv a b S dn val X) : CnJ V ov nv p q pa pb wv a b S (andB dn 2) (updV val 2 (.int .i64 (p : Int))) X :=
  ⟨h.s0, h.s1, (fun _ => rfl), h.s3, h.s4, h.s5, h.s6, h.s7, h.s8, h.bel, h.e9, h.e10, h.e11, h.e12⟩
theorem CnJ.op3 (h : CnJ V ov nv p q pa pb wv a b S dn val X) : CnJ V ov nv p q pa pb wv a b S (andB dn 3) (updV val 3 (.pointer (some pa))) X :=
  ⟨h.s0, h.s1, h.s2, (fun _ => rfl), h.s4, h.s5, h.s6, h.s7, h.s8, h.bel, h.e9, h.e10, h.e11, h.e12⟩
theorem CnJ.op4 (h : CnJ V ov nv p q pa pb wv a b S dn val X) : CnJ V ov nv p q pa pb wv a b S (andB dn 4) (updV val 4 (.int .i64 a)) X :=
  ⟨h.s0, h.s1, h.s2, h.s3, (fun _ => rfl), h.s5, h.s6, h.s7, h.s8, h.bel, h.e9, h.e10, h.e11, h.e12⟩
theorem CnJ.op5 (h : CnJ V ov nv p q pa pb wv a b S dn val X) : CnJ V ov nv p q pa pb wv a b S (andB dn 5) (updV val 5 (wv)) X :=
  ⟨h.s0, h.s1, h.s2, h.s3, h.s4, (fun _ => rfl), h.s6, h.s7, h.s8, h.bel, h.e9, h.e10, h.e11, h.e12⟩
theorem CnJ.op6 (h : CnJ V ov nv p q pa pb wv a b S dn val X) : CnJ V ov nv p q pa pb wv a b S (andB dn 6) (updV val 6 (.int .i64 (q : Int))) X :=
  ⟨h.s0, h.s1, h.s2, h.s3, h.s4, h.s5, (fun _ => rfl), h.s7, h.s8, h.bel, h.e9, h.e10, h.e11, h.e12⟩
theorem CnJ.op7 (h : CnJ V ov nv p q pa pb wv a b S dn val X) : CnJ V ov nv p q pa pb wv a b S (andB dn 7) (updV val 7 (.pointer (some pb))) X :=
  ⟨h.s0, h.s1, h.s2, h.s3, h.s4, h.s5, h.s6, (fun _ => rfl), h.s8, h.bel, h.e9, h.e10, h.e11, h.e12⟩
theorem CnJ.op8 (h : CnJ V ov nv p q pa pb wv a b S dn val X) : CnJ V ov nv p q pa pb wv a b S (andB dn 8) (updV val 8 (.int .i64 b)) X :=
  ⟨h.s0, h.s1, h.s2, h.s3, h.s4, h.s5, h.s6, h.s7, (fun _ => rfl), h.bel, h.e9, h.e10, h.e11, h.e12⟩
theorem CnJ.op9 (h : CnJ V ov nv p q pa pb wv a b S dn val X) (n10 : dn 10 = false) (n11 : dn 11 = false) : CnJ V ov nv p q pa pb wv a b S (andB dn 9) (updV val 9 (.slice (some ⟨X.heap.size, 0, none⟩) 2 2)) (X.alloc (.cells #[.int .i64 a, .int .i64 b] 3)) :=
  ⟨h.s0, h.s1, h.s2, h.s3, h.s4, h.s5, h.s6, h.s7, h.s8, (fun n => (h.bel n).alloc (h.bel n).size _), (fun _ _ => ⟨_, (h.bel n11).size, rfl, World.alloc_heap_new X _⟩), (fun d => f_t n10 d), (fun d => f_t n11 d), (fun d => f_t n11 (h.e12 d).1)⟩
theorem CnJ.op10 (h : CnJ V ov nv p q pa pb wv a b S dn val X) (n11 : dn 11 = false) {g : Nat} (hge : V.heap.size ≤ g) (hg : X.heap[g]? = some (.cells #[.int .i64 a, .int .i64 b] 3)) : CnJ V ov nv p q pa pb wv a b S (andB dn 10) (updV val 10 (.slice (some ⟨X.heap.size, 0, none⟩) 1 1)) (X.alloc (.cells #[.slice (some ⟨g, 0, none⟩) 2 2] 22)) :=
  ⟨h.s0, h.s1, h.s2, h.s3, h.s4, h.s5, h.s6, h.s7, h.s8, (fun n => (h.bel n).alloc (h.bel n).size _), (fun d n => by
    obtain ⟨g', a1, a2, a3⟩ := h.e9 d n
    exact ⟨g', a1, a2, ((below_new (w := X) _).block _ (Array.getElem?_eq_some_iff.1 a3).1).trans a3⟩), (fun _ _ => ⟨g, _, hge, rfl, World.alloc_heap_new X _, ((below_new (w := X) _).block _ (Array.getElem?_eq_some_iff.1 hg).1).trans hg⟩), (fun d => f_t n11 d), (fun d => f_t n11 (h.e12 d).1)⟩
theorem CnJ.op11 (h : CnJ V ov nv p q pa pb wv a b S dn val X) (n12 : dn 12 = false) {v : Value} (hS : S v Y) : CnJ V ov nv p q pa pb wv a b S (andB dn 11) (updV val 11 v) Y :=
  ⟨h.s0, h.s1, h.s2, h.s3, h.s4, h.s5, h.s6, h.s7, h.s8, (fun n => nomatch n), (fun _ n => nomatch n), (fun _ n => nomatch n), (fun _ => hS), (fun d => f_t n12 d)⟩
theorem CnJ.op12 (h : CnJ V ov nv p q pa pb wv a b S dn val X) (y11 : dn 11 = true) : CnJ V ov nv p q pa pb wv a b S (andB dn 12) (updV val 12 (val 11)) X :=
  ⟨h.s0, h.s1, h.s2, h.s3, h.s4, h.s5, h.s6, h.s7, h.s8, h.bel, h.e9, h.e10, h.e11, (fun _ => ⟨y11, rfl⟩)⟩
end
section
variable {o : Oper} {a : Act} {w : World} {K : Act → World → Prop} {Q : Exit → Act → World → Prop}
theorem run_app_sl2 {W : World} {LL : List (List Int)} {vals : List Value} {vs : Value} (s x : Operand) (ho : o.op = .call { callee := .builtin .append, args := #[s, x], argTypes := #[27, 27] })
    {r : Value} {R : List Int} (hs : a.eval s = vs) (h : SlI W LL vals vs w) (g : Nat) (hx : a.eval x = .slice (some ⟨g, 0, none⟩) 1 1) (hc : w.heap[g]? = some (.cells #[r] 22)) (h1 : r.oneCell' = true) (hr : InSl w w.heap.size r R) (hro : ∀ g, r.ownBlock = some g → vs.ownBlock ≠ some g ∧ g < w.heap.size) (hn : LL.length ≤ 10000000000)
    (hK : ∀ v' w', SlI W (LL ++ [R]) (vals ++ [r]) v' w' → w.grownBy w' vs.ownBlock → (v'.ownBlock = vs.ownBlock ∨ v'.ownBlock = some w.heap.size) → K (a.put o.dst v') w') : o.wp Tryz.prog a w K Q := by
    obtain ⟨i0, hi0, hz0, hz1, hz2⟩ := infoS
    obtain ⟨v', w', hr', h2, h3, _, h5⟩ := run_append_own_at (P := Tryz.prog) (w := w) W.heap.size 27 o.type 22 i0 (.slice none 0 0) 1 24 Tryz.underlying27 hi0 hz0 hz1 hz2 rfl (by decide) vs LL.length vals h.own ⟨g, 0, none⟩ 1 1 [r] rfl
      (fun j u hj => by
        rw [add_zero_k]
        simpa [World.cell?, hc] using hj) (fun u hu => by simp at hu; subst hu; exact h1) (by unfold maxLen; omega) (by omega) h.bel.size
    unfold Oper.wp execOp
    simp only [ho, resolve, invoke, builtin, Sem.run_bind, Sem.run_pure, Result.andThen_ok, List.map_toArray, List.map_cons, List.map_nil, hs, hx, hr']
    exact hK v' w' (h.push h3 h2 h5 hr hro) h3 h5
end
set_option maxRecDepth 100000 in
set_option maxHeartbeats 16000000 in
theorem rConfused_any (v u : Value) (m : Mx) (k : Kx) (w : World) (hv : MxV w v m) (hs : MSm m) (hu : KyV w u k) (hk : KSm k) :
    Calls Tryz.prog 12 #[v, u] w fun e w' => (∃ x, e = .returned (.tuple #[x, .int .i64 (ckE m k)]) ∧ VsSl w' w'.heap.size x (confL m k)) ∧ Below w.heap.size w w' := by
  obtain ⟨A1, c1, A2, c2, W0, rfl, hW0, hb0, hM, hS, hR, hX⟩ := mx_box hv
  have hz : W0.heap.size = w.heap.size + 1 := by rw [← hW0]; simp
  obtain ⟨B1, d1, B2, d2, W1, rfl, hW1, hb1, hK, hNd, hV, hX1⟩ := ky_box (hu.step hb0)
  rw [hz] at hX1
  have HW := Lib.hid (And.intro hW0 hW1)
  have hB1 := hb0.trans (hb1.mono hb0.size)
  have HB1 := Lib.hid hB1
  have HX := Lib.hid (fun Y (h : Below W1.heap.size W1 Y) => And.intro (hX Y (hb1.trans (h.mono hb1.size))) (hX1 Y h))
  have HC := Lib.hid (rCheckKey_any _ _ m k W1 (hM W1 hb1) hs (hK W1 (Below.refl _ _)) hk)
  have HV := Lib.hid hV
  have HCk := Lib.hid (ck_cases m k)
  have HNm := Lib.hid (fun h : ckE m k = 0 => show k.lv.length ≤ 1000 ∧ ∀ L ∈ k.lv, Nms L from by
    have hlv := (ck_ok h).2.1
    unfold leavesF at hlv
    rw [Bool.and_eq_true] at hlv
    exact ⟨(of_decide_eq_true hlv.2).2, fun L hL => of_decide_eq_true (List.all_eq_true.1 hlv.1 L hL)⟩)
  have HE := Lib.hid (show confL m k = (if ckE m k = 0 then confF k.lv else []) from rfl)
  have HLl := Lib.hid hk.2.2.2
  obtain ⟨ce, hce⟩ : ∃ c, ckE m k = c := ⟨_, rfl⟩
  obtain ⟨cl, hcl⟩ : ∃ c, confL m k = c := ⟨_, rfl⟩
  rw [hce] at HC HE HCk HNm
  rw [hcl] at HE
  rw [hcl, hce]
  generalize hlv : k.lv = lv at *
  obtain ⟨nl, hnl⟩ : ∃ n, lv.length = n := ⟨_, rfl⟩
  have HN := Lib.hid hnl
  have hnl2 : nl ≤ 2000 := by rw [← hnl, ← hlv]; exact hk.2.1
  rw [hnl] at HX HW HC HV HNm
  rw [hnl]
  obtain ⟨⟨k0, k1⟩, k2, k3⟩ := HX.out W1 (Below.refl _ _)
  generalize k.nd.length = nn at *
  generalize m.rows.length = nr at *
  generalize m.st.length = ns at *
  clear hv hu hs hk hW0 hb0 hM hS hR hX hz hW1 hb1 hK hNd hV hX1 hce hcl hB1 hnl hlv
  go_enter Tryz.func12, Tryz.ntmps12
  go_wp2_with fail
  rw [HW.out.1, HW.out.2]
  (try go_wp2_with fail)
  (with_reducible refine HC.out.mono ?_)
  rintro e y1 ⟨rfl, hb⟩
  have HB2 := Lib.hid hb
  clear k0 k1 k2 k3 HC hb
  obtain ⟨⟨k0, k1⟩, k2, k3⟩ := HX.out y1 HB2.out
  rcases HCk.out with h0 | h0 | h0
  rotate_left
  · subst h0
    have HF := Lib.hid (show cl = [] from by rw [HE.out]; simp)
    go_wp2_with fail
    go_ret2
    exact ⟨⟨_, rfl, by rw [HF.out]; exact ⟨none, 0, [], rfl, ⟨rfl, fun i v L h => by simp at h⟩, fun i u h => by simp at h⟩⟩, HB1.out.trans (HB2.out.mono HB1.out.size)⟩
  · subst h0
    have HF := Lib.hid (show cl = [] from by rw [HE.out]; simp)
    go_wp2_with fail
    go_ret2
    exact ⟨⟨_, rfl, by rw [HF.out]; exact ⟨none, 0, [], rfl, ⟨rfl, fun i v L h => by simp at h⟩, fun i u h => by simp at h⟩⟩, HB1.out.trans (HB2.out.mono HB1.out.size)⟩
  subst h0
  obtain ⟨hn1000, hns⟩ := HNm.out rfl
  have HNs := Lib.hid hns
  have HF := Lib.hid (show cl = confF lv from by rw [HE.out]; simp)
  have HAl := Lib.hid (all_len HLl.out)
  have HAk := Lib.hid (show allF lv nl = keysB lv from by rw [← HN.out]; exact all_keys HNs.out)
  clear HNm HE HCk hns
  have HFr0 := Lib.hid (show Fr y1.heap.size y1 (.slice none 0 0) (allF lv 0) from Fr.nil _ _)
  go_wp2_with fail
  go_loopw [7, 8] (fun ov iv wr => ∃ (i : Nat) (Ao : Option Addr) (no co : Nat), ov = .slice Ao no co ∧ iv = .int .i64 (i : Int) ∧ i ≤ nl ∧ Fr y1.heap.size wr ov (allF lv i) ∧ Below y1.heap.size y1 wr) (fun _ iv _ => nl - (intOf iv).toNat)
  case atStart => exact ⟨0, _, _, _, rfl, rfl, by omega, HFr0.out, Below.refl _ _⟩
  case round =>
    clear HFr0
    obtain ⟨i, Ao, no, co, rfl, rfl, hin, hFr, hb⟩ := hrel
    have HFr := Lib.hid hFr
    have HBi := Lib.hid hb
    have HBw := Lib.hid (HB2.out.trans (hb.mono HB2.out.size))
    clear hFr hb k0 k1 k2 k3
    obtain ⟨⟨k0, k1⟩, k2, k3⟩ := HX.out wr HBw.out
    by_cases hlt : i < nl
    · obtain ⟨ad, ul, L, rfl, _, hL, hc, hul⟩ := (HV.out wr HBw.out).at_ hlt
      obtain ⟨Au, cu, rfl, _⟩ := hul.form
      have HY := Lib.hid (all_next hL)
      have HMg := Lib.hid (rmerged_any _ _ (allF lv i) L wr HFr.out.1 hul (by have := HAl.out i; omega) (by have := HLl.out L (List.mem_of_getElem? hL); omega))
      have his : (i : Int) < (nl : Int) := by omega
      have hi0 : ¬ (i : Int) < 0 := by omega
      generalize L.length = nL at *
      clear hL hul
      go_wp2_with fail
      (with_reducible refine HMg.out.mono ?_)
      rintro e w5 ⟨⟨rv, rfl, hr⟩, hb⟩
      obtain ⟨Ar, cr, rfl, _⟩ := hr.1.form
      have HR5 := Lib.hid (hr.low HBi.out.size)
      have HB5 := Lib.hid (HBi.out.trans (hb.mono HBi.out.size))
      clear hr hb k0 k1 k2 k3 hc
      go_wp2_with fail
      go_roundw
      case rel => exact ⟨i + 1, _, _, _, rfl, by go_num, by omega, by rw [HY.out]; exact HR5.out, HB5.out⟩
      case measure => simp [intOf]; omega
    · obtain rfl : nl = i := by omega
      have hKin := HFr.out.1
      rw [HAk.out] at hKin
      obtain ⟨nK, hnK⟩ : ∃ n, (keysB lv).length = n := ⟨_, rfl⟩
      have hno : no = nK := by
        obtain ⟨_, _, e, _⟩ := hKin
        injection e with _ e
        rw [← hnK, e]
      subst hno
      have HNK := Lib.hid hnK
      have HK65 := Lib.hid (show no ≤ 65536 from by rw [← hnK]; exact keysB_len _)
      have HKin := Lib.hid hKin
      obtain ⟨w2, hw2⟩ : ∃ z, z = wr := ⟨_, rfl⟩
      subst hw2
      have HB3 := HBw
      clear hKin hnK HFr HAk HAl HBi hlt hin HBw
      go_wp2_with fail
      go_loopw [9, 10, 11, 12, 13] (fun ov pv _ _ _ wr => ∃ (p : Nat) (vals : List Value) (A5 : Option Addr) (n5 c5 : Nat), pv = .int .i64 (p : Int) ∧ ov = .slice A5 n5 c5 ∧ p ≤ no ∧ SlI w2 (prF lv p 0) vals (.slice A5 n5 c5) wr) (fun _ pv _ _ _ _ => no - (intOf pv).toNat)
      case atStart => exact ⟨0, [], none, 0, 0, rfl, rfl, by omega, SlI.start w2⟩
      case round =>
        obtain ⟨p, vals, A5, n5, c5, rfl, rfl, hpn, hO⟩ := hrel
        have HO := Lib.hid hO
        clear hO k0 k1 k2 k3
        have HBr := Lib.hid (HB3.out.trans (HO.out.bel.mono HB3.out.size))
        obtain ⟨⟨k0, k1⟩, k2, k3⟩ := HX.out wr HBr.out
        by_cases hlt : p < no
        · obtain ⟨a, ada, ha, rfl, _, hca⟩ := (show InA wr wr.heap.size Ao (keysB lv) from by obtain ⟨_, _, e, _, _, h⟩ := HKin.out.step HO.out.bel; cases e; exact h).at_ HNK.out hlt
          have hps : (p : Int) < (no : Int) := by omega
          have hp6 : (p : Int) < 65536 := by have := HK65.out; omega
          have hp0 : ¬ (p : Int) < 0 := by omega
          have har := (allN_mem.1 (List.mem_filter.1 (List.mem_of_getElem? ha)).1)
          have HA := Lib.hid ha
          have HKy := Lib.hid (fun Y (h : Below w2.heap.size w2 Y) => show InA Y Y.heap.size (some ada) (keysB lv) from by obtain ⟨_, _, e, _, _, h⟩ := HKin.out.step h; cases e; exact h)
          have HWl := Lib.hid (with_len HLl.out a)
          have HFr0 := Lib.hid (show Fr wr.heap.size wr (.slice none 0 0) (withF lv a 0) from Fr.nil _ _)
          obtain ⟨wo, hwo⟩ : ∃ z, z = wr := ⟨_, rfl⟩
          clear ha
          subst hwo
          go_wp2_with fail
          go_loopw [11, 12] (fun ov iv wr => ∃ (i : Nat) (Ax : Option Addr) (nx cx : Nat), ov = .slice Ax nx cx ∧ iv = .int .i64 (i : Int) ∧ i ≤ nl ∧ Fr wo.heap.size wr ov (withF lv a i) ∧ Below wo.heap.size wo wr) (fun _ iv _ => nl - (intOf iv).toNat)
          case atStart => exact ⟨0, _, _, _, rfl, rfl, by omega, HFr0.out, Below.refl _ _⟩
          case round =>
            clear HFr0
            obtain ⟨i, Ax, nx, cx, rfl, rfl, hin, hFr, hb⟩ := hrel
            have HFr := Lib.hid hFr
            have HBi := Lib.hid hb
            have HBw := Lib.hid (HBr.out.trans (hb.mono HBr.out.size))
            have HB2w := Lib.hid (HO.out.bel.trans (hb.mono HO.out.bel.size))
            clear hFr hb k0 k1 k2 k3 hca
            obtain ⟨⟨k0, k1⟩, k2, k3⟩ := HX.out wr HBw.out
            obtain ⟨a2, ada2, ha2, e2, _, hca⟩ := (HKy.out wr HB2w.out).at_ HNK.out hlt
            rw [HA.out] at ha2
            injection ha2 with ha2
            subst ha2
            injection e2 with e2
            subst e2
            by_cases hlt2 : i < nl
            · obtain ⟨ad, ul, L, rfl, _, hL, hc, hul⟩ := (HV.out wr HBw.out).at_ hlt2
              obtain ⟨Au, cu, rfl, _⟩ := hul.form
              have HLq := Lib.hid hL
              have HUl := Lib.hid hul
              have HHz := Lib.hid (fun z : Wb wr => (rhas_any _ a L z.v (hul.step z.h) (by have := HLl.out L (List.mem_of_getElem? hL); omega)).mono fun e w' ⟨he, hw⟩ => show e = Ending.returned (.bool (hasF L a)) ∧ Below z.v.heap.size z.v w' from ⟨he, by rw [← hw]; exact Below.refl _ _⟩)
              have his : (i : Int) < (nl : Int) := by omega
              have hi0 : ¬ (i : Int) < 0 := by omega
              obtain ⟨nL, hnL⟩ : ∃ n, L.length = n := ⟨_, rfl⟩
              have HNL := Lib.hid hnL
              rw [hnL] at HHz HUl hc
              obtain ⟨h2, hh2⟩ : ∃ h2, hasF L a = h2 := ⟨_, rfl⟩
              rw [hh2] at HHz
              have HH2 := Lib.hid hh2
              clear hh2 hL hul hnL
              have ss := fun z : Wb wr => And.intro (And.intro (Wb.cell k3 z) (Wb.cell hc z)) (Wb.cell hca z)
              go_wp2_with fail
              refine wp_region_wb (by kernel_rfl) (by kernel_rfl) ?_; (repeat ((with_reducible refine wpQuiet_step ?_); intro K hK; go_simp; (try (refine ite_neg_of (by simp [undef]) ?_)); first | (with_reducible refine hK _ ?_; clear hK K) | (apply Exists.intro; (with_reducible refine ⟨fun _ => ?_, hK _ ?_⟩); ((go_at_call 37; exact Calls.wb (HHz.out _))); clear hK K))); (with_reducible refine wpQuiet_nil ?_); rintro w1 ⟨⟨_, hb1⟩, rfl⟩; (try dsimp only)
              have HBj := Lib.hid (HBi.out.trans (hb1.mono HBi.out.size))
              have HBx := Lib.hid (HBw.out.trans (hb1.mono HBw.out.size))
              have HFj := Lib.hid (HFr.out.step hb1)
              have HUj := Lib.hid (HUl.out.step hb1)
              have pc : w1.cell? (ad.add i) = _ := (ss ⟨w1, hb1⟩).1.2
              clear k0 k1 k2 k3 hc hca HHz ss
              obtain ⟨⟨k0, k1⟩, k2, k3⟩ := HX.out w1 HBx.out
              clear hb1
              cases h2 with
              | false =>
                have HY := Lib.hid (with_no HLq.out HH2.out)
                go_wp2_with fail
                go_roundw
                case rel => exact ⟨i + 1, _, _, _, rfl, by go_num, by omega, by rw [HY.out]; exact HFj.out, HBj.out⟩
                case measure => simp [intOf]; omega
              | true =>
                have HY := Lib.hid (with_yes HLq.out HH2.out)
                have HMg := Lib.hid (rmerged_any _ _ (withF lv a i) L w1 HFj.out.1 HUj.out (by have := HWl.out i; omega) (by have := HLl.out L (List.mem_of_getElem? HLq.out); omega))
                go_wp2_with fail
                (with_reducible refine HMg.out.mono ?_)
                rintro e w5 ⟨⟨rv, rfl, hr⟩, hb⟩
                obtain ⟨Ar, cr, rfl, _⟩ := hr.1.form
                have HR5 := Lib.hid (hr.low HBj.out.size)
                have HB5 := Lib.hid (HBj.out.trans (hb.mono HBj.out.size))
                clear hr hb k0 k1 k2 k3 pc
                go_wp2_with fail
                go_roundw
                case rel => exact ⟨i + 1, _, _, _, rfl, by go_num, by omega, by rw [HY.out]; exact HR5.out, HB5.out⟩
                case measure => simp [intOf]; omega
            · obtain rfl : nl = i := by omega
              have HO5 := Lib.hid (HO.out.step HBi.out)
              have hR := HFr.out.1
              obtain ⟨WL, hWL⟩ : ∃ l, withF lv a nl = l := ⟨_, rfl⟩
              have HWe := Lib.hid (show withF lv a lv.length = WL from by rw [HN.out]; exact hWL)
              rw [hWL] at hR
              obtain ⟨nR, hnR⟩ : ∃ n, WL.length = n := ⟨_, rfl⟩
              have hnx : nx = nR := by
                obtain ⟨_, _, e, _⟩ := hR
                injection e with _ e
                rw [← hnR, e]
              subst hnx
              have HNR := Lib.hid hnR
              have HR65 := Lib.hid (show nx ≤ 1000000 from by rw [← hnR, ← hWL]; have := HWl.out nl; omega)
              have HR := Lib.hid hR
              have HRo := Lib.hid (show ∀ g, Value.ownBlock (.slice Ax nx cx) = some g → Value.ownBlock (.slice A5 n5 c5) ≠ some g ∧ g < wr.heap.size from fun g e => ⟨fun e2 => by
                have h1 := (HFr.out.2 g e).1
                have h2 := (HO.out.lt e2).2
                omega, (HFr.out.2 g e).2⟩)
              obtain ⟨wx, hwx⟩ : ∃ z, z = wr := ⟨_, rfl⟩
              subst hwx
              clear hR hnR hWL HFr HWl hlt2 hin
              go_wp2_with fail
              go_loopw [9, 13] (fun ov qv wq => ∃ (q : Nat) (vals : List Value) (A5 : Option Addr) (n5 c5 : Nat), qv = .int .i64 (q : Int) ∧ ov = .slice A5 n5 c5 ∧ q ≤ nx ∧ InSl wq wq.heap.size (.slice Ax nx cx) WL ∧ (∀ g, Value.ownBlock (.slice Ax nx cx) = some g → Value.ownBlock (.slice A5 n5 c5) ≠ some g ∧ g < wq.heap.size) ∧ SlI w2 (prF lv p q) vals (.slice A5 n5 c5) wq) (fun _ qv _ => nx - (intOf qv).toNat)
              case atStart => exact ⟨0, vals, _, _, _, rfl, rfl, by omega, HR.out, HRo.out, HO5.out⟩
              case round =>
                obtain ⟨q, vals, A5, n5, c5, rfl, rfl, hqn, hRi, hRo, hO⟩ := hrel
                have HO := Lib.hid hO
                have HRi := Lib.hid (And.intro hRi hRo)
                clear hO hRi hRo k0 k1 k2 k3 hca
                have HBq := Lib.hid (HB3.out.trans (HO.out.bel.mono HB3.out.size))
                obtain ⟨⟨k0, k1⟩, k2, k3⟩ := HX.out wr HBq.out
                obtain ⟨a2, ada2, ha2, e2, _, hca⟩ := (HKy.out wr HO.out.bel).at_ HNK.out hlt
                rw [HA.out] at ha2
                injection ha2 with ha2
                subst ha2
                injection e2 with e2
                subst e2
                by_cases hlt2 : q < nx
                · obtain ⟨b, adb, hbq, rfl, _, hcb⟩ := (show InA wr wr.heap.size Ax WL from by obtain ⟨_, _, e, _, _, h⟩ := HRi.out.1; cases e; exact h).at_ HNR.out hlt2
                  have hqs : (q : Int) < (nx : Int) := by omega
                  have hq6 : (q : Int) < 1000000 := by have := HR65.out; omega
                  have hq0 : ¬ (q : Int) < 0 := by omega
                  have HBq2 := Lib.hid (show (withF lv a lv.length)[q]? = some b from by rw [HWe.out]; exact hbq)
                  have ss := fun z : Wb wr => And.intro (Wb.cell hca z) (Wb.cell hcb z)
                  by_cases hab : a < b
                  · go_wp2_with fail
                    refine wp_region_wb (by kernel_rfl) (by kernel_rfl) ?_; (repeat ((with_reducible refine wpQuiet_step ?_); intro K hK; go_simp; (try (refine ite_neg_of (by simp [undef]) ?_)); first | (with_reducible refine hK _ ?_; clear hK K) | (apply Exists.intro; (with_reducible refine ⟨fun _ => ?_, hK _ ?_⟩); (fail); clear hK K))); (with_reducible refine wpQuiet_nil ?_); rintro w1 ⟨⟨_, hb1⟩, rfl⟩; (try dsimp only)
                    have p0 : w1.cell? (ada.add p) = _ := (ss ⟨w1, hb1⟩).1
                    have p1 : w1.cell? (adb.add q) = _ := (ss ⟨w1, hb1⟩).2
                    have HOa := Lib.hid (HO.out.step hb1)
                    have HRa := Lib.hid (And.intro (HRi.out.1.step hb1) (fun g e => And.intro (HRi.out.2 g e).1 (Nat.lt_of_lt_of_le (HRi.out.2 g e).2 hb1.size)))
                    clear ss hb1 hca hcb k0 k1 k2 k3
                    go_wp2_with fail
                    obtain ⟨LL, hLL⟩ : ∃ x, prF lv p q = x := ⟨_, rfl⟩
                    have HNx := Lib.hid (show prF lv p (q + 1) = LL ++ [[a, b]] from by rw [pr_yes HA.out HBq2.out hab, hLL])
                    have HLb := Lib.hid (show LL.length ≤ 10000000000 from by
                      rw [← hLL]
                      have h1 := pr_len lv p q
                      rw [show (keysB lv).getD p 0 = a from by rw [List.getD_eq_getElem?_getD, HA.out]; rfl, HWe.out, HNR.out] at h1
                      have := HK65.out; have := HR65.out
                      omega)
                    rw [hLL] at HOa
                    have HCa := Lib.hid (fun X (h : Below w1.heap.size w1 X) => And.intro ((h.cell (World.block_lt_of_cell? _ _ p0)).trans p0) ((h.cell (World.block_lt_of_cell? _ _ p1)).trans p1))
                    have hpo : p < no := hlt
                    have hqx : q < nx := hlt2
                    clear hbq hLL p0 p1
                    refine wp_opaque ?_
                    intro t0 ht0
                    have hsz0 : t0.size = 92 := by rw [ht0]; rfl
                    have q7 : t0.getD 7 undef = .slice (some ada) no co := by rw [ht0]; rfl
                    have q9 : t0.getD 9 undef = .slice A5 n5 c5 := by rw [ht0]; rfl
                    have q10 : t0.getD 10 undef = .int .i64 (p : Int) := by rw [ht0]; rfl
                    have q11 : t0.getD 11 undef = .slice (some adb) nx cx := by rw [ht0]; rfl
                    have q13 : t0.getD 13 undef = .int .i64 (q : Int) := by rw [ht0]; rfl
                    have HT0 := Lib.hid ht0
                    clear ht0
                    have HBd := Lib.hid (fun X (hI : Below w1.drew.heap.size w1.drew X) => (Below.refl w1.heap.size w1).drew.trans hI)
                    refine wp_region_vals [some 79, some 80, some 81, some 82, some 83, some 84, some 85, some 86, some 87, some 88, some 89, some 90, some 9] (CnJ w1.drew (.slice A5 n5 c5) (.slice (some ada) no co) p q (ada.add p) (adb.add q) (.slice (some adb) nx cx) a b (fun v X => (∃ vals, SlI w2 (LL ++ [[a, b]]) vals v X) ∧ InSl X X.heap.size (.slice (some adb) nx cx) WL ∧ ∀ g, Value.ownBlock (.slice (some adb) nx cx) = some g → v.ownBlock ≠ some g ∧ g < X.heap.size)) (by kernel_rfl) (by kernel_rfl) rfl rfl (by simp [hsz0]) (by kernel_rfl) ?_ ?_ ?_
                    · intro val
                      exact ⟨(fun h => nomatch h), (fun h => nomatch h), (fun h => nomatch h), (fun h => nomatch h), (fun h => nomatch h), (fun h => nomatch h), (fun h => nomatch h), (fun h => nomatch h), (fun h => nomatch h), fun _ => Below.refl _ _, (fun h => nomatch h), (fun h => nomatch h), (fun h => nomatch h), (fun h => nomatch h)⟩
                    · intro dn qq o hi hd hp hc val X aa ha hn' hI K hK
                      have hq : qq < 13 := by
                        have := (Array.getElem?_eq_some_iff.1 hi).1
                        simpa using this
                      have bf : ∀ {q : Bool}, (q = true → False) → q = false := fun {q} h => by cases q; rfl; exact (h rfl).elim
                      have c12 : dn 12 = true → dn 11 = true := fun h => hc 12 _ rfl h ⟨11, .data⟩ (by simp) rfl
                      have c11 : dn 11 = true → dn 0 = true ∧ dn 10 = true := fun h => ⟨hc 11 _ rfl h ⟨0, .data⟩ (by simp) rfl, hc 11 _ rfl h ⟨10, .data⟩ (by simp) rfl⟩
                      have c10 : dn 10 = true → dn 9 = true := fun h => hc 10 _ rfl h ⟨9, .data⟩ (by simp) rfl
                      have c9 : dn 9 = true → dn 4 = true ∧ dn 8 = true := fun h => ⟨hc 9 _ rfl h ⟨4, .data⟩ (by simp) rfl, hc 9 _ rfl h ⟨8, .data⟩ (by simp) rfl⟩
                      rcases (show qq = 0 ∨ qq = 1 ∨ qq = 2 ∨ qq = 3 ∨ qq = 4 ∨ qq = 5 ∨ qq = 6 ∨ qq = 7 ∨ qq = 8 ∨ qq = 9 ∨ qq = 10 ∨ qq = 11 ∨ qq = 12 by omega) with rfl | rfl | rfl | rfl | rfl | rfl | rfl | rfl | rfl | rfl | rfl | rfl | rfl
                      · obtain rfl := Option.some.inj hi
                        have n12 : dn 12 = false := bf fun h => f_t hd (c11 (c12 h)).1
                        exact opMove 9 _ rfl ((ha 9).trans ((hn' 12 9 n12 rfl).trans q9)) (hK _ _ hI.op0)
                      · obtain rfl := Option.some.inj hi
                        exact opMove 7 _ rfl ((ha 7).trans q7) (hK _ _ hI.op1)
                      · obtain rfl := Option.some.inj hi
                        exact opMove 10 _ rfl ((ha 10).trans q10) (hK _ _ hI.op2)
                      · obtain rfl := Option.some.inj hi
                        exact opIx 80 81 _ _ _ _ rfl ((ha 80).trans (hI.s1 (hp ⟨1, .data⟩ (by simp) rfl))) ((ha 81).trans (hI.s2 (hp ⟨2, .data⟩ (by simp) rfl))) hpo (hK _ _ hI.op3)
                      · obtain rfl := Option.some.inj hi
                        have n11 : dn 11 = false := bf fun h => f_t hd (c9 (c10 (c11 h).2)).1
                        exact opLd 82 _ _ rfl ((ha 82).trans (hI.s3 (hp ⟨3, .data⟩ (by simp) rfl))) (HCa.out X (HBd.out X (hI.bel n11))).1 (hK _ _ hI.op4)
                      · obtain rfl := Option.some.inj hi
                        exact opMove 11 _ rfl ((ha 11).trans q11) (hK _ _ hI.op5)
                      · obtain rfl := Option.some.inj hi
                        exact opMove 13 _ rfl ((ha 13).trans q13) (hK _ _ hI.op6)
                      · obtain rfl := Option.some.inj hi
                        exact opIx 84 85 _ _ _ _ rfl ((ha 84).trans (hI.s5 (hp ⟨5, .data⟩ (by simp) rfl))) ((ha 85).trans (hI.s6 (hp ⟨6, .data⟩ (by simp) rfl))) hqx (hK _ _ hI.op7)
                      · obtain rfl := Option.some.inj hi
                        have n11 : dn 11 = false := bf fun h => f_t hd (c9 (c10 (c11 h).2)).2
                        exact opLd 86 _ _ rfl ((ha 86).trans (hI.s7 (hp ⟨7, .data⟩ (by simp) rfl))) (HCa.out X (HBd.out X (hI.bel n11))).2 (hK _ _ hI.op8)
                      · obtain rfl := Option.some.inj hi
                        have n10 : dn 10 = false := bf fun h => f_t hd (c10 h)
                        have n11 : dn 11 = false := bf fun h => f_t n10 (c11 h).2
                        exact opBox2 83 87 _ _ rfl ((ha 83).trans (hI.s4 (hp ⟨4, .data⟩ (by simp) rfl))) ((ha 87).trans (hI.s8 (hp ⟨8, .data⟩ (by simp) rfl))) (hK _ _ (hI.op9 n10 n11))
                      · obtain rfl := Option.some.inj hi
                        have n11 : dn 11 = false := bf fun h => f_t hd (c11 h).2
                        obtain ⟨g, hge, eB, hg⟩ := hI.e9 (hp ⟨9, .data⟩ (by simp) rfl) n11
                        exact opBoxS 88 _ _ _ rfl ((ha 88).trans eB) (hK _ _ (hI.op10 n11 hge hg))
                      · obtain rfl := Option.some.inj hi
                        have n12 : dn 12 = false := bf fun h => f_t hd (c12 h)
                        obtain ⟨g, g2, hge, eB, hg2, hg⟩ := hI.e10 (hp ⟨10, .data⟩ (by simp) rfl) hd
                        have hBX := HBd.out X (hI.bel hd)
                        have hgl : g < X.heap.size := (Array.getElem?_eq_some_iff.1 hg).1
                        refine run_app_sl2 (.tmp 79) (.tmp 89) rfl ((ha 79).trans (hI.s0 (hp ⟨0, .data⟩ (by simp) rfl))) (HOa.out.step hBX) g2 ((ha 89).trans eB) hg2 rfl (pair_sl hg) (fun g' e => by
                          have e2 : g = g' := by simpa [Value.ownBlock] using e
                          subst e2
                          refine ⟨fun e3 => ?_, hgl⟩
                          have h1 := (HOa.out.lt e3).2
                          have h2 : w1.drew.heap.size = w1.heap.size := rfl
                          omega) HLb.out ?_
                        intro v' w' h1 h2 h3
                        refine hK _ _ (hI.op11 n12 ⟨⟨_, h1⟩, ?_, fun g' e => ?_⟩)
                        · exact ((HRa.out.1.step hBX).keepOwn fun p hp => World.cell?_of_block (h2.block _ (by
                            have := (HRa.out.2 _ hp).2
                            have := hBX.size
                            omega) fun e => (HRa.out.2 _ hp).1 e.symm)).mono h2.size
                        · have k1 := HRa.out.2 g' e
                          have k2 := hBX.size
                          have k3 := h2.size
                          refine ⟨?_, by omega⟩
                          rcases h3 with e2 | e2
                          · exact fun e3 => k1.1 (e2.symm.trans e3)
                          · intro e3
                            have e4 := e2.symm.trans e3
                            injection e4 with e4
                            omega
                      · obtain rfl := Option.some.inj hi
                        exact opAssign 90 _ rfl (ha 90) (hK _ _ (hI.op12 (hp ⟨11, .data⟩ (by simp) rfl)))
                    · intro dn val X hdn hI
                      obtain ⟨⟨vals6, hO6⟩, hR6, hRo6⟩ := hI.e11 (hdn 11 (by simp))
                      have hz := (hI.e12 (hdn 12 (by simp))).2
                      simp only [wrS, HT0.out]
                      simp only [List.setIfInBounds_toArray, List.set_cons_succ, List.set_cons_zero]
                      rw [hz]
                      (try simp only [Exit.then])
                      obtain ⟨A6, c6, e6⟩ := hO6.sl.form
                      have HO6 := Lib.hid hO6
                      have HR6 := Lib.hid (And.intro hR6 hRo6)
                      rw [e6] at HO6 HR6 ⊢
                      clear hdn hI hz e6 HT0 hsz0 q7 q9 q10 q11 q13 HBd hO6 hR6 hRo6 HOa HRa HCa
                      (try go_wp2_with fail)
                      go_roundw
                      case rel => exact ⟨q + 1, vals6, _, _, _, by go_num, rfl, by omega, HR6.out.1, HR6.out.2, by rw [HNx.out]; exact HO6.out⟩
                      case measure => simp [intOf]; omega
                  · have HNx := Lib.hid (pr_no HA.out HBq2.out hab)
                    have hd : decide (a < b) = false := decide_eq_false hab
                    clear hbq hab
                    go_wp2_with fail
                    refine wp_region_wb (by kernel_rfl) (by kernel_rfl) ?_; (repeat ((with_reducible refine wpQuiet_step ?_); intro K hK; go_simp; (try (refine ite_neg_of (by simp [undef]) ?_)); first | (with_reducible refine hK _ ?_; clear hK K) | (apply Exists.intro; (with_reducible refine ⟨fun _ => ?_, hK _ ?_⟩); (fail); clear hK K))); (with_reducible refine wpQuiet_nil ?_); rintro w1 ⟨⟨_, hb1⟩, rfl⟩; (try dsimp only)
                    have HOa := Lib.hid (HO.out.step hb1)
                    have HRa := Lib.hid (And.intro (HRi.out.1.step hb1) (fun g e => And.intro (HRi.out.2 g e).1 (Nat.lt_of_lt_of_le (HRi.out.2 g e).2 hb1.size)))
                    clear ss hb1
                    go_wp2_with fail
                    go_roundw
                    case rel => exact ⟨q + 1, vals, _, _, _, by go_num, rfl, by omega, HRa.out.1, HRa.out.2, by rw [HNx.out]; exact HOa.out⟩
                    case measure => simp [intOf]; omega
                · obtain rfl : nx = q := by omega
                  have HNx := Lib.hid (show prF lv p nx = prF lv (p + 1) 0 from pr_next HNs.out HA.out (by rw [HWe.out, HNR.out]; exact Nat.le_refl _))
                  go_wp2_with fail
                  go_roundw
                  case rel => exact ⟨p + 1, vals, A5, n5, c5, by go_num, rfl, by omega, by rw [← HNx.out]; exact HO.out⟩
                  case measure => simp [intOf]; omega
        · obtain rfl : no = p := by omega
          have HFo := Lib.hid (show prF lv no 0 = cl from by rw [HF.out]; exact pr_all (by rw [HNK.out]; exact Nat.le_refl _))
          go_wp2_with fail
          go_ret2
          exact ⟨⟨_, rfl, by rw [← HFo.out]; exact HO.out.sl⟩, HB1.out.trans (HBr.out.mono HB1.out.size)⟩
end Go.Proofs.YthfegbcbpeedbaaGreatDoor
