/- The program's Follow. -/
import Derived.Test.YthfegbcbpeedbaaDoorKyUn
import Derived.Test.YthfegbcbpeedbaaDoorKyPu
import Derived.Test.YthfegbcbpeedbaaDoorKyOl
import Derived.Test.YthfegbcbpeedbaaDoorKyOo
namespace Go.Ky
open Go.Nm
theorem follow_union {m : Mx} {k : Kx} {l : List Int} (hk : KSm k) (h : ckE m k = 0) (hl : setsF m.st l = true) : (reachF k l).length ≤ 1000000 ∧ (∀ L ∈ reachF k l, L.length ≤ 1000000) ∧ (∀ L ∈ reachF k l, ∀ z ∈ L, 1 ≤ z ∧ z ≤ 65535) ∧ Inc (folF k (rchF k l) k.lv.length) ∧ ∀ z, z ∈ folF k (rchF k l) k.lv.length ↔ ∃ L ∈ reachF k l, z ∈ L := by
  obtain ⟨hm, hlv, hok⟩ := ck_ok h
  have h1 := leaves_one hlv
  have hr : ∀ (i : Nat) (x : Int), l[i]? = some x → 0 ≤ x ∧ x ≤ 65535 := fun i x hx => by have := sets_range hm hl hx; omega
  have hall : ∀ L ∈ k.lv, Nms L := fun L hL => by
    unfold leavesF at hlv
    rw [Bool.and_eq_true] at hlv
    exact of_decide_eq_true (List.all_eq_true.1 hlv.1 L hL)
  have hin : ∀ L ∈ reachF k l, L ∈ k.lv := fun L hL => by
    obtain ⟨j, _, hj⟩ := (reached_leaf hok (sets_len hl) hr h1 L).1 hL
    exact List.mem_of_getElem? hj
  refine ⟨?_, fun L hL => ?_, fun L hL => (hall L (hin L hL)).2, fol_inc (fun L hL => (hall L hL).1) _ (Nat.le_refl _), fun z => follow_mem hok (sets_len hl) hr h1 z⟩
  · have := reach_len (seen := l) hok h1
    have := hk.2.1
    omega
  · have := hk.2.2.2 L (hin L hL)
    omega
end Go.Ky
namespace Go.Proofs.YthfegbcbpeedbaaDoor
open Go.RowKit Go.Nm Go.Ky

set_option maxRecDepth 100000 in
set_option maxHeartbeats 8000000 in
theorem Follow_any (v u t : Value) (m : Mx) (k : Kx) (l : List Int) (w : World) (hv : MxV w v m) (hs : MSm m) (hu : KyV w u k) (hk : KSm k) (ht : InSl w w.heap.size t l) (hl : l.length ≤ 1000) (hT : TabH w) :
    Calls Tryd.prog 41 #[v, u, t] w fun e w' => (∃ x, e = .returned (.tuple #[x, .int .i64 (followE m k l)]) ∧ Fr w.heap.size w' x (followL m k l)) ∧ Below w.heap.size w w' := by
  obtain ⟨A1, c1, A2, c2, W0, rfl, hW0, hb0, hM, hS, hR, hX⟩ := mx_box hv
  have hz : W0.heap.size = w.heap.size + 1 := by rw [← hW0]; simp
  obtain ⟨B1, d1, B2, d2, W1, rfl, hW1, hb1, hK, hNd, hV, hX1⟩ := ky_box (hu.step hb0)
  rw [hz] at hX1
  have HW := Lib.hid (And.intro hW0 hW1)
  have hB1 := hb0.trans (hb1.mono hb0.size)
  have HB1 := Lib.hid hB1
  have HX := Lib.hid (fun Y (h : Below W1.heap.size W1 Y) => And.intro (hX Y (hb1.trans (h.mono hb1.size))) (hX1 Y h))
  have HC := Lib.hid (CheckKey_any _ _ m k W1 (hM W1 hb1) hs (hK W1 (Below.refl _ _)) hk)
  have HSe := Lib.hid (fun (h : ckE m k = 0) Y (hY : Below W1.heap.size W1 Y) => areSets_any _ t m l Y (hM Y (hb1.trans (hY.mono hb1.size))) (mx_chr (ck_ok h).1) (ht.step (hB1.trans (hY.mono hB1.size))) (by omega))
  have HRe := Lib.hid (fun (h : ckE m k = 0) (h2 : setsF m.st l = true) Y (hY : Below W1.heap.size W1 Y) => reached_any _ t k l m.st Y (hK Y hY) (ht.step (hB1.trans (hY.mono hB1.size))) hk (ck_ok h).2.2 (sets_len' h2) (leaves_one (ck_ok h).2.1))
  have HUn := Lib.hid (fun (h : ckE m k = 0) (h2 : setsF m.st l = true) => follow_union hk h h2)
  have HTb := Lib.hid (fun Y (h : Below W1.heap.size W1 Y) => (hT.step hB1).step h)
  have HTs := Lib.hid (fun Y (h : Below W1.heap.size W1 Y) => ht.step (hB1.trans (h.mono hB1.size)))
  have HCk := Lib.hid (ck_cases m k)
  have HE := Lib.hid (show followE m k l = (if ckE m k = 0 then (if setsF m.st l = true then 0 else 32) else ckE m k) ∧ followL m k l = (if followE m k l = 0 then folF k (rchF k l) k.lv.length else []) from ⟨rfl, rfl⟩)
  obtain ⟨ce, hce⟩ : ∃ c, ckE m k = c := ⟨_, rfl⟩
  obtain ⟨te, hte⟩ : ∃ c, followE m k l = c := ⟨_, rfl⟩
  obtain ⟨tl, htl⟩ : ∃ c, followL m k l = c := ⟨_, rfl⟩
  obtain ⟨sp, hsp⟩ : ∃ c, setsF m.st l = c := ⟨_, rfl⟩
  obtain ⟨f, hf⟩ : ∃ f, folF k (rchF k l) k.lv.length = f := ⟨_, rfl⟩
  obtain ⟨RL, hRL⟩ : ∃ f, reachF k l = f := ⟨_, rfl⟩
  rw [hce] at HC HE HCk HSe HRe HUn
  rw [hsp] at HSe HE HRe HUn
  rw [hf] at HE HUn
  rw [hRL] at HRe HUn
  rw [hte, htl] at HE
  rw [hte, htl]
  obtain ⟨n, hn⟩ : ∃ n, k.nd.length = n := ⟨_, rfl⟩
  obtain ⟨⟨k0, k1⟩, k2, k3⟩ := HX.out W1 (Below.refl _ _)
  obtain ⟨At, ct, rfl, _⟩ := ht.form
  obtain ⟨nt, hnt⟩ : ∃ n, l.length = n := ⟨_, rfl⟩
  obtain ⟨nl, hnl⟩ : ∃ n, k.lv.length = n := ⟨_, rfl⟩
  obtain ⟨ns, hns⟩ : ∃ n, m.st.length = n := ⟨_, rfl⟩
  rw [hn, hnl, hns] at HX HW
  rw [hn, hnl, hns] at HC
  rw [hns, hnt] at HSe
  rw [hn, hnl, hnt] at HRe
  rw [hnl] at k3
  rw [hns] at k0
  rw [hn] at k2
  rw [hn, hnl, hns, hnt]
  generalize m.rows.length = nr at *
  clear hv hu hs hk ht hl hT hW0 hb0 hM hS hR hX hz hW1 hb1 hK hNd hV hX1 hce hte htl hsp hf hRL hn hnt hB1 hnl hns
  have bad : ∀ z : Int, te = z → z ≠ 0 → tl = [] := fun z h h0 => by rw [HE.out.2, h, if_neg h0]
  go_enter Tryd.func41, Tryd.ntmps41
  go_wp2_with fail
  rw [HW.out.1, HW.out.2]
  (try go_wp2_with fail)
  (with_reducible refine HC.out.mono ?_)
  rintro e w1 ⟨rfl, hb⟩
  have HB2 := Lib.hid hb
  clear k0 k1 k2 k3 HC hb
  obtain ⟨⟨k0, k1⟩, k2, k3⟩ := HX.out w1 HB2.out
  rcases HCk.out with h0 | h0 | h0
  rotate_left
  · subst h0
    have h1 : te = 30 := by rw [HE.out.1]; rfl
    have HF := Lib.hid (And.intro h1 (bad 30 h1 (by decide)))
    clear bad HE HCk h1 HSe HRe HUn
    go_wp2_with fail
    go_ret2
    exact ⟨⟨_, by rw [HF.out.1]; rfl, by rw [HF.out.2]; exact Fr.nil _ _⟩, HB1.out.trans (HB2.out.mono HB1.out.size)⟩
  · subst h0
    have h1 : te = 31 := by rw [HE.out.1]; rfl
    have HF := Lib.hid (And.intro h1 (bad 31 h1 (by decide)))
    clear bad HE HCk h1 HSe HRe HUn
    go_wp2_with fail
    go_ret2
    exact ⟨⟨_, by rw [HF.out.1]; rfl, by rw [HF.out.2]; exact Fr.nil _ _⟩, HB1.out.trans (HB2.out.mono HB1.out.size)⟩
  · subst h0
    have HSe1 := Lib.hid (HSe.out rfl w1 HB2.out)
    have HRe1 := Lib.hid (HRe.out rfl)
    have HUn1 := Lib.hid (HUn.out rfl)
    clear HSe HRe HUn HCk
    go_wp2_with fail
    (with_reducible refine HSe1.out.mono ?_)
    rintro e w2 ⟨rfl, hb⟩
    have HB3 := Lib.hid (HB2.out.trans (hb.mono HB2.out.size))
    clear k0 k1 k2 k3 HSe1 hb
    obtain ⟨⟨k0, k1⟩, k2, k3⟩ := HX.out w2 HB3.out
    cases sp with
    | false =>
      have h1 : te = 32 := by rw [HE.out.1]; rfl
      have HF := Lib.hid (And.intro h1 (bad 32 h1 (by decide)))
      clear bad HE h1 HRe1 HUn1
      go_wp2_with fail
      go_ret2
      exact ⟨⟨_, by rw [HF.out.1]; rfl, by rw [HF.out.2]; exact Fr.nil _ _⟩, HB1.out.trans (HB3.out.mono HB1.out.size)⟩
    | true =>
      have h1 : te = 0 := by rw [HE.out.1]; rfl
      have HF := Lib.hid (show te = 0 ∧ tl = f from ⟨h1, by rw [HE.out.2, h1, if_pos rfl]⟩)
      have HRe2 := Lib.hid (HRe1.out rfl w2 HB3.out)
      have HUn2 := Lib.hid (HUn1.out rfl)
      clear bad HE h1 HRe1 HUn1
      go_wp2_with fail
      (with_reducible refine HRe2.out.mono ?_)
      rintro e w3 ⟨⟨r, rfl, hr⟩, hb⟩
      have HB4 := Lib.hid (HB3.out.trans (hb.mono HB3.out.size))
      have HU := Lib.hid (union_any r RL f w3 hr HUn2.out.1 HUn2.out.2.1 HUn2.out.2.2.1 HUn2.out.2.2.2.1 HUn2.out.2.2.2.2 (HTb.out w3 HB4.out))
      clear k0 k1 k2 k3 HRe2 hb hr
      obtain ⟨⟨k0, k1⟩, k2, k3⟩ := HX.out w3 HB4.out
      go_wp2_with fail
      (with_reducible refine HU.out.mono ?_)
      rintro e w4 ⟨⟨x, rfl, hx⟩, hb⟩
      have HFx := Lib.hid hx
      have HB5 := Lib.hid (HB4.out.trans (hb.mono HB4.out.size))
      have HB45 := Lib.hid hb
      clear k0 k1 k2 k3 HU hb hx
      obtain ⟨⟨k0, k1⟩, k2, k3⟩ := HX.out w4 HB5.out
      go_wp2_with fail
      go_ret2
      exact ⟨⟨_, by rw [HF.out.1]; rfl, by rw [HF.out.2]; exact HFx.out.low (Nat.le_trans HB1.out.size HB4.out.size)⟩, HB1.out.trans (HB5.out.mono HB1.out.size)⟩
theorem follow_len {m : Mx} {k : Kx} {l : List Int} (hk : KSm k) : (followL m k l).length ≤ 65535 := by
  unfold followL followE
  by_cases h : ckE m k = 0
  · by_cases h2 : setsF m.st l = true
    · rw [if_pos h, if_pos h2, if_pos rfl]
      obtain ⟨_, _, h3, h4, h5⟩ := follow_union hk h h2
      refine inc_len _ 1 _ h4 fun z hz => ?_
      obtain ⟨L, hL, hz2⟩ := (h5 z).1 hz
      have := h3 L hL z hz2
      omega
    · rw [if_pos h, if_neg h2]; simp
  · rw [if_neg h, if_neg h]; simp
theorem trF_len {k : Kx} {l : List Int} : ∀ (d : Nat) (a : Int), (trF k l d a).length ≤ d
  | 0, _ => by unfold trF; simp
  | d + 1, a => by
    unfold trF
    split
    · simp
    · rw [List.length_cons]
      have := trF_len (k := k) (l := l) d ((k.nd.getD a.toNat ⟨0, []⟩).may.getD (l.getD (k.nd.getD a.toNat ⟨0, []⟩).nm.toNat 0).toNat 0)
      omega
theorem trace_len {m : Mx} {k : Kx} {l : List Int} (hk : KSm k) : (traceL m k l).length ≤ 3000 := by
  unfold traceL
  split
  · rw [List.length_cons]
    have := trF_len (k := k) (l := l) (k.nd.length + 1) (begF k)
    have := hk.1
    omega
  · simp
end Go.Proofs.YthfegbcbpeedbaaDoor
