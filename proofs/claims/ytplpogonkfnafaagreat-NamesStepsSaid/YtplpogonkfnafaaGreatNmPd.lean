
/- compose: the walk. -/
import Derived.Test.YtplpogonkfnafaaGreatNmPc
namespace Go.Proofs.YtplpogonkfnafaaGreat
open Go.RowKit Go.Nm Go.Maps

set_option maxRecDepth 100000 in
theorem MI.run {W X : World} {mb n : Nat} {f : Int → Int} (h : MI W mb n f X) (z : Int) (hz : (Lit.int .i64 z).wf = true) : (Instr.lookup 67 (.map (some mb)) (.int .i64 z) false).run Tryz.prog X = .ok (.int .i64 (f z)) X := by
  obtain ⟨_, _, ⟨D, h1, h2⟩, _⟩ := h
  obtain ⟨c, hrun, hat, _⟩ := h1.lookup_int keyI Tryz.underlying67 Tryz.underlying3 (zeroI _) (keyOf_int_mk Tryz.underlying3 hz)
  have := (h2 z).symm.trans hat
  injection this with h; injection h with _ h
  rw [h]; exact hrun
set_option maxRecDepth 100000 in
set_option maxHeartbeats 4000000 in
theorem placesOf_big (u : Value) (to : List Int) (w : World) (hu : InSl w w.heap.size u to) (hi : Inc to) (hw : ∀ z ∈ to, 1 ≤ z ∧ z ≤ 65535) (hl : to.length ≤ 1000000) :
    Calls Tryz.prog 32 #[u] w fun e w' => ∃ mb f, e = .returned (.map (some mb)) ∧ PlM w mb to.length f w' to ∧ Below w.heap.size w w' := by
  obtain ⟨A, c, rfl, _⟩ := hu.form
  have HU := Lib.hid (show InA w w.heap.size A to from by obtain ⟨_, _, e, _, _, h⟩ := hu; cases e; exact h)
  have HI := Lib.hid hi
  have HWf := Lib.hid hw
  obtain ⟨n, hn⟩ : ∃ n, to.length = n := ⟨_, rfl⟩
  have HN := Lib.hid hn
  rw [hn] at hl ⊢
  have hm0 := (MS.made w w (Below.refl _ _)).mi
  have HM0 := Lib.hid (show MI w w.heap.size 0 (fun _ => 0) (w.alloc (.map #[] 0)) from by
    have h := hm0
    simpa using h)
  clear hu hi hw hn hm0
  have hmm := @run_makeMap Tryz.prog
  go_enter Tryz.func32, Tryz.ntmps32
  go_wp2_with fail
  go_loopw [9] (fun iv wr => ∃ (i : Nat) (f : Int → Int), iv = .int .i64 (i : Int) ∧ i ≤ n ∧ MI w w.heap.size i f wr ∧ ∀ (k : Nat) (z : Int), k < i → to[k]? = some z → f z = (k : Int)) (fun iv _ => n - (intOf iv).toNat)
  case atStart => exact ⟨0, _, rfl, by omega, HM0.out, fun k z hk => absurd hk (by omega)⟩
  case round =>
    obtain ⟨i, f, rfl, hin, hM, hq⟩ := hrel
    have HM := Lib.hid hM
    have HQ := Lib.hid hq
    clear hM hq
    by_cases hlt : i < n
    · obtain ⟨z, ad, hz, rfl, hbd, hcz⟩ := (HU.out.below HM.out.bel).at_ HN.out hlt
      have HZ := Lib.hid (wf_nm (HWf.out z (List.mem_of_getElem? hz)))
      have HQ2 := Lib.hid (show ∀ (k : Nat) (q : Int), k < i + 1 → to[k]? = some q → (if q = z then (i : Int) else f q) = (k : Int) from fun k q hk hq => by
        by_cases e : k = i
        · subst e
          rw [hz] at hq; injection hq with hq
          rw [if_pos hq.symm]
        · have h1 := (List.getElem?_eq_some_iff.1 hq)
          have h2 := (List.getElem?_eq_some_iff.1 hz)
          have := (List.pairwise_iff_getElem.1 HI.out) k i h1.1 h2.1 (by omega)
          rw [h1.2, h2.2] at this
          rw [if_neg (by omega)]
          exact HQ.out k q (by omega) hq)
      have hnm : i < maxLen := by unfold maxLen; omega
      have HIw := Lib.hid (show (Lit.int .i64 (i : Int)).wf = true from WalkArith.wf_i64 (by omega))
      clear hz hbd
      go_wp2_with (at_mapUpdate; refine wpList_put_mi rfl _ _ _ rfl HM.out hnm rfl z rfl HZ.out (i : Int) rfl HIw.out ?_; intro w4 hm4 hg4; have HM4 := Lib.hid hm4; clear hm4 hg4)
      go_roundw
      case rel => exact ⟨i + 1, _, by go_num, by omega, HM4.out, HQ2.out⟩
      case measure => simp [intOf]; omega
    · obtain rfl : i = n := by omega
      go_wp2_with fail
      go_ret
      exact ⟨_, f, rfl, ⟨HM.out, fun k z hz => HQ.out k z (by have := (List.getElem?_eq_some_iff.1 hz).1; have := HN.out; omega) hz⟩, HM.out.bel⟩
/-- the sets' bits of the first i lists -/
def BtD (b : List (List Int)) (V : List Int) (i : Nat) (wds : Nat → Nat → Nat) : Prop := ∀ k l p y, k < i → b[k]? = some l → V[p]? = some y → bit (wds k) p = decide (y ∈ l)
def BtC (b : List (List Int)) (V : List Int) (i : Nat) (l : List Int) (j : Nat) (wds : Nat → Nat → Nat) : Prop := BtD b V i wds ∧ ∀ p y, V[p]? = some y → bit (wds i) p = decide (y ∈ l.take j)
theorem BtD.zero (b : List (List Int)) (V : List Int) (wds : Nat → Nat → Nat) : BtD b V 0 wds := fun k _ _ _ h => absurd h (by omega)
theorem BtD.open_ {b : List (List Int)} {V : List Int} {i : Nat} {wds : Nat → Nat → Nat} (h : BtD b V i wds) (l : List Int) : BtC b V i l 0 (updP wds i (fun _ => 0)) :=
  ⟨fun k l' p y hk h1 h2 => by unfold updP; rw [if_neg (by omega)]; exact h k l' p y hk h1 h2, fun p y _ => by unfold updP; rw [if_pos rfl, bit_zero]; simp⟩
theorem BtC.next {b : List (List Int)} {V : List Int} {i j p0 : Nat} {l : List Int} {z : Int} {wds : Nat → Nat → Nat} (h : BtC b V i l j wds) (hV : Inc V) (hz : l[j]? = some z) (hp : V[p0]? = some z) :
    BtC b V i l (j + 1) (updP wds i (fun q => if q = p0 / 64 then wds i q ||| 2 ^ (p0 % 64) else wds i q)) :=
  ⟨fun k l' p y hk h1 h2 => by unfold updP; rw [if_neg (by omega)]; exact h.1 k l' p y hk h1 h2, fun p y hy => by
    unfold updP
    rw [if_pos rfl, bit_add, h.2 p y hy, show l.take (j + 1) = l.take j ++ [z] from by rw [List.take_add_one, hz]; rfl]
    rw [Bool.eq_iff_iff]
    simp only [Bool.or_eq_true, decide_eq_true_iff, List.mem_append, List.mem_singleton]
    refine or_congr_right ⟨fun e => ?_, fun e => ?_⟩
    · subst e; rw [hy] at hp; injection hp
    · subst e
      have h1 := List.getElem?_eq_some_iff.1 hy
      have h2 := List.getElem?_eq_some_iff.1 hp
      rcases Nat.lt_trichotomy p p0 with h | h | h
      · have := (List.pairwise_iff_getElem.1 hV) p p0 h1.1 h2.1 h
        rw [h1.2, h2.2] at this; omega
      · exact h
      · have := (List.pairwise_iff_getElem.1 hV) p0 p h2.1 h1.1 h
        rw [h1.2, h2.2] at this; omega⟩
theorem BtC.close {b : List (List Int)} {V : List Int} {i j : Nat} {l : List Int} {wds : Nat → Nat → Nat} (h : BtC b V i l j wds) (hl : b[i]? = some l) (hj : l.length = j) : BtD b V (i + 1) wds := fun k l' p y hk h1 h2 => by
  by_cases e : k = i
  · subst e
    rw [hl] at h1; injection h1 with h1; subst h1
    rw [h.2 p y h2, show l.take j = l from List.take_of_length_le (by omega)]
  · exact h.1 k l' p y (by omega) h1 h2
/-- to what a list leads -/
def Led (fp : Int → Int) (b : List (List Int)) (l : List Int) (y : Int) : Prop := ∃ z ∈ l, ∃ (k : Nat) (bl : List Int), fp z = (k : Int) ∧ b[k]? = some bl ∧ y ∈ bl
def RowP (fp : Int → Int) (b : List (List Int)) (l r : List Int) : Prop := Inc r ∧ ∀ y, y ∈ r ↔ Led fp b l y
def CmD (fp : Int → Int) (a b R : List (List Int)) : Prop := R.length = a.length ∧ ∀ (i : Nat) (l r : List Int), a[i]? = some l → R[i]? = some r → RowP fp b l r
def AlD (fp : Int → Int) (b : List (List Int)) (V l : List Int) (j : Nat) (wd : Nat → Nat) : Prop := ∀ p y, V[p]? = some y → (bit wd p = true ↔ Led fp b (l.take j) y)
theorem AlD.zero (fp : Int → Int) (b : List (List Int)) (V l : List Int) : AlD fp b V l 0 (fun _ => 0) := fun p y _ => by
  rw [bit_zero]
  constructor
  · intro h; cases h
  · rintro ⟨z, hz, _⟩; simp at hz
theorem AlD.next {fp : Int → Int} {b : List (List Int)} {V l bl : List Int} {j k : Nat} {z : Int} {wd wt : Nat → Nat} (h : AlD fp b V l j wd) (hz : l[j]? = some z) (hk : fp z = (k : Int)) (hb : b[k]? = some bl) (ht : ∀ p y, V[p]? = some y → bit wt p = decide (y ∈ bl)) :
    AlD fp b V l (j + 1) (fun q => wd q ||| wt q) := fun p y hy => by
  rw [bit_or, Bool.or_eq_true, h p y hy, ht p y hy, decide_eq_true_iff, show l.take (j + 1) = l.take j ++ [z] from by rw [List.take_add_one, hz]; rfl]
  constructor
  · rintro (⟨z', h1, h2⟩ | h1)
    · exact ⟨z', by simp [h1], h2⟩
    · exact ⟨z, by simp, k, bl, hk, hb, h1⟩
  · rintro ⟨z', h1, k', bl', h2, h3, h4⟩
    rcases List.mem_append.1 h1 with h1 | h1
    · exact .inl ⟨z', h1, k', bl', h2, h3, h4⟩
    · simp at h1; subst h1
      rw [hk] at h2
      have : k = k' := by omega
      subst this
      rw [hb] at h3; injection h3 with h3; subst h3
      exact .inr h4
theorem AlD.row {fp : Int → Int} {b : List (List Int)} {V l : List Int} {j : Nat} {wd : Nat → Nat} (h : AlD fp b V l j wd) (hj : l.length = j) (hV : Inc V) (hm : ∀ y, y ∈ V ↔ ∃ l ∈ b, y ∈ l) {nv : Nat} (hn : V.length = nv) : RowP fp b l (rowS V (bit wd) nv) := by
  subst hn
  refine ⟨inc_rowS hV _ (Nat.le_refl _), fun y => ?_⟩
  rw [mem_rowS _ (Nat.le_refl _)]
  constructor
  · rintro ⟨p, _, h1, h2⟩
    have := (h p y h1).1 h2
    rwa [show l.take j = l from List.take_of_length_le (by omega)] at this
  · intro hl
    have hy : y ∈ V := by
      obtain ⟨z, _, k, bl, _, h2, h3⟩ := hl
      exact (hm y).2 ⟨bl, List.mem_of_getElem? h2, h3⟩
    obtain ⟨p, hp⟩ := List.getElem?_of_mem hy
    exact ⟨p, (List.getElem?_eq_some_iff.1 hp).1, hp, (h p y hp).2 (by rwa [show l.take j = l from List.take_of_length_le (by omega)])⟩
/-- the first i rows are done, the others are empty -/
def RwD (fp : Int → Int) (a b : List (List Int)) (i : Nat) (vals : Nat → Value) (P : Nat → List Int) : Prop := (∀ k l, k < i → a[k]? = some l → RowP fp b l (P k)) ∧ ∀ k, i ≤ k → vals k = .slice none 0 0 ∧ P k = []
theorem RwD.fin {fp : Int → Int} {a b : List (List Int)} {na : Nat} {vals : Nat → Value} {P : Nat → List Int} (h : RwD fp a b na vals P) (hn : a.length = na) : CmD fp a b ((List.range na).map P) := by
  refine ⟨by simp [hn], fun i l r h1 h2 => ?_⟩
  have hi : i < na := by have := (List.getElem?_eq_some_iff.1 h1).1; omega
  rw [List.getElem?_map, List.getElem?_range hi] at h2
  simp only [Option.map_some, Option.some.injEq] at h2
  subst h2
  exact h.1 i l hi h1
theorem RwD.next {fp : Int → Int} {a b : List (List Int)} {i : Nat} {vals vals' : Nat → Value} {P P' : Nat → List Int} {l : List Int} (h : RwD fp a b i vals P) (hl : a[i]? = some l) (hr : RowP fp b l (P' i)) (h1 : ∀ k, k ≠ i → vals' k = vals k) (h2 : ∀ k, k ≠ i → P' k = P k) : RwD fp a b (i + 1) vals' P' :=
  ⟨fun k l' hk hl' => by
    by_cases e : k = i
    · subst e
      rw [hl] at hl'; injection hl' with hl'; subst hl'
      exact hr
    · rw [h2 k e]; exact h.1 k l' (by omega) hl', fun k hk => by rw [h1 k (by omega), h2 k (by omega)]; exact h.2 k (by omega)⟩
theorem updP_same {α : Type} (f : Nat → α) (k : Nat) (v : α) : updP f k v k = v := if_pos rfl
theorem updP_other {α : Type} (f : Nat → α) {k j : Nat} (v : α) (h : j ≠ k) : updP f k v j = f j := if_neg h
set_option maxRecDepth 100000 in
set_option maxHeartbeats 16000000 in
theorem compose_any (ua ub : Value) (a b : List (List Int)) (mbp np : Nat) (fp : Int → Int) (Wp w : World) (hua : VsSl w w.heap.size ua a) (hub : VsSl w w.heap.size ub b) (hp : MI Wp mbp np fp w) (hal : a.length ≤ 1000) (hbl : b.length ≤ 1000)
    (hb : ∀ l ∈ b, l.length ≤ 1000 ∧ ∀ z ∈ l, 1 ≤ z ∧ z ≤ 65535) (ha : ∀ l ∈ a, l.length ≤ 1000 ∧ ∀ z ∈ l, (1 ≤ z ∧ z ≤ 65535) ∧ ∃ k : Nat, fp z = (k : Int) ∧ k < b.length) :
    Calls Tryz.prog 31 #[ua, .map (some mbp), ub] w fun e w' => (∃ r R, e = .returned r ∧ VsSl w' w'.heap.size r R ∧ CmD fp a b R) ∧ Below w.heap.size w w' := by
  have HA := Lib.hid hua
  have HB := Lib.hid hub
  obtain ⟨Aa, ca, rfl⟩ := hua.form
  obtain ⟨Ab, cb, rfl⟩ := hub.form
  obtain ⟨na, hna⟩ : ∃ na, a.length = na := ⟨_, rfl⟩
  obtain ⟨nb, hnb⟩ : ∃ nb, b.length = nb := ⟨_, rfl⟩
  have HNa := Lib.hid hna
  have HNb := Lib.hid hnb
  have HP := Lib.hid hp
  have HBl := Lib.hid hb
  have HVo := Lib.hid (valuesOf_any _ b w hub hbl hb)
  rw [hna] at HA hal ⊢
  rw [hnb] at HB HVo hbl ha ⊢
  have HAl := Lib.hid ha
  clear hua hub hp ha hb hna hnb
  go_enter Tryz.func31, Tryz.ntmps31
  go_wp2_with fail
  (with_reducible refine HVo.out.mono ?_)
  rintro e w1 ⟨⟨v, V, rfl, hv, hV, hy, hvl⟩, hb⟩
  obtain ⟨Av, cv, rfl, _⟩ := hv.form
  have HB1 := Lib.hid hb
  have HPl := Lib.hid (placesOf_big _ V w1 hv hV (fun z hz => by obtain ⟨l, h1, h2⟩ := (hy z).1 hz; exact (HBl.out l h1).2 z h2) hvl)
  obtain ⟨nv, hnv⟩ : ∃ nv, V.length = nv := ⟨_, rfl⟩
  have HNv := Lib.hid hnv
  have HV := Lib.hid hv
  have HVi := Lib.hid hV
  have HVm := Lib.hid hy
  rw [hnv] at HPl hvl HV ⊢
  clear hv hV hy hnv hb HVo
  go_wp2_with fail
  (with_reducible refine HPl.out.mono ?_)
  rintro e w2 ⟨mbx, fx, rfl, hpm, hb⟩
  have HMx := Lib.hid hpm.mi
  have HMat := Lib.hid hpm.at_
  have HB2 := Lib.hid (HB1.out.trans (hb.mono HB1.out.size))
  have HV2 := Lib.hid (show InA w2 w2.heap.size Av V from by obtain ⟨_, _, e, _, _, h⟩ := HV.out.step hb; cases e; exact h)
  have HMw := Lib.hid (And.intro HB1.out hb)
  obtain ⟨nw, hnw⟩ : ∃ nw, (nv + 63) / 64 = nw := ⟨_, rfl⟩
  have HNw := Lib.hid hnw
  clear hpm hb HPl HV hnw
  go_wp2_with (refine wpList_make_sets rfl _ _ rfl nb rfl rfl (by omega) ?_; intro cs hcs1; have HSt := Lib.hid (StI.start (W := w2) (nw := nw) hcs1 (fun _ => 0) (fun _ _ => 0)); clear hcs1)
  obtain ⟨gs, hgs⟩ : ∃ gs, w2.heap.size = gs := ⟨_, rfl⟩
  have HGs := Lib.hid hgs
  rw [hgs] at HSt ⊢
  clear hgs
  go_loopw [31] (fun iv wr => ∃ (i : Nat) (gk : Nat → Nat) (wds : Nat → Nat → Nat), iv = .int .i64 (i : Int) ∧ i ≤ nb ∧ StI w2 gs nb nw i gk wds wr ∧ BtD b V i wds) (fun iv _ => nb - (intOf iv).toNat)
  case atStart => exact ⟨0, _, _, rfl, by omega, HSt.out, BtD.zero _ _ _⟩
  case round =>
    obtain ⟨i, gk, wds, rfl, hin, hS, hD⟩ := hrel
    have HS := Lib.hid hS
    have HD := Lib.hid hD
    have HBr := Lib.hid (HB2.out.trans (hS.bel.mono HB2.out.size))
    clear hS hD
    by_cases hlt : i < nb
    · obtain ⟨adb, ul, l, rfl, hbd, hl, hcl0, hin2⟩ := HB.out.at_ hlt
      have hcl := (HBr.out.cell (p := adb.add i) (by rw [add_block]; exact hbd)).trans hcl0
      obtain ⟨Al, cl, rfl, _⟩ := hin2.form
      have HAl2 := Lib.hid (show InA w w.heap.size Al l from by obtain ⟨_, _, e, _, _, h⟩ := hin2; cases e; exact h)
      obtain ⟨hl1, hl2⟩ := HBl.out l (List.mem_of_getElem? hl)
      have HLw := Lib.hid hl2
      have HLi := Lib.hid hl
      obtain ⟨nl, hnl⟩ : ∃ nl, l.length = nl := ⟨_, rfl⟩
      have HNl := Lib.hid hnl
      rw [hnl] at hcl hl1
      have HNs := Lib.hid (newSet_any nv nw wr HNw.out hvl)
      clear hcl0 hbd hin2 hl2 hl hnl
      go_wp2_with fail
      (with_reducible refine HNs.out.mono ?_)
      rintro e wn ⟨rfl, hbn⟩
      have HSo := Lib.hid (HS.out.open_ hbn hlt)
      obtain ⟨old, hold⟩ := (HS.out.step hbn.bel).old hlt
      have hfz := (HS.out.step hbn.bel).froz i
      obtain ⟨gn, hgn⟩ : ∃ gn, wr.heap.size = gn := ⟨_, rfl⟩
      rw [hgn] at HSo ⊢
      clear hbn HNs hgn hcl
      go_wp2_with fail
      clear hold hfz
      go_loopw [44] (fun jv wq => ∃ (j : Nat) (wds' : Nat → Nat → Nat), jv = .int .i64 (j : Int) ∧ j ≤ nl ∧ StI w2 gs nb nw (i + 1) (updP gk i gn) wds' wq ∧ BtC b V i l j wds') (fun jv _ => nl - (intOf jv).toNat)
      case atStart => exact ⟨0, _, rfl, by omega, HSo.out, HD.out.open_ l⟩
      case round =>
        obtain ⟨j, wds', rfl, hjn, hS, hC⟩ := hrel
        have HSj := Lib.hid hS
        have HCj := Lib.hid hC
        have HBj := Lib.hid (HB2.out.trans (hS.bel.mono HB2.out.size))
        clear hS hC
        by_cases hjt : j < nl
        · obtain ⟨z, adl, hz, rfl, hbz, hcz0⟩ := HAl2.out.at_ HNl.out hjt
          have hcz := (HBj.out.cell (p := adl.add j) (by rw [add_block]; exact hbz)).trans hcz0
          have HZw := Lib.hid (wf_nm (HLw.out z (List.mem_of_getElem? hz)))
          obtain ⟨p0, hp0⟩ := List.getElem?_of_mem ((HVm.out z).2 ⟨l, List.mem_of_getElem? HLi.out, List.mem_of_getElem? hz⟩)
          have hpn : p0 < nv := by have := (List.getElem?_eq_some_iff.1 hp0).1; have := HNv.out; omega
          have hlk := MI.run ((HMx.out.step HSj.out.bel).drew) z HZw.out
          rw [HMat.out p0 z hp0] at hlk
          have hcs := (HSj.out.step (Below.refl _ _).drew).cell (Nat.lt_succ_self i)
          rw [updP_same] at hcs
          have HAd := Lib.hid (setAdd_any w2 gn nw (wds' i) p0 wr.drew (by have h := (HSj.out.step (Below.refl _ _).drew).set i (Nat.lt_succ_self i); rwa [updP_same] at h) (by have := HNw.out; omega) (by omega))
          have HNx := Lib.hid (HCj.out.next HVi.out hz hp0)
          clear hcz0 hbz hz hp0
          go_wp2_with fail
          refine wp_region_tail 7 (by kernel_rfl) (by kernel_rfl) ?_
          simp only [List.take_succ_cons, List.take_zero, List.drop_succ_cons, List.drop_zero]
          iterate 7 ((with_reducible refine wpStill_step ?_); intro K hK; go_simp; (try (refine ite_neg_of (by simp [undef] <;> assumption) ?_)); (with_reducible refine hK _ ?_); clear hK K)
          (with_reducible refine wpStill_nil ?_)
          go_wp2_with fail
          (with_reducible refine HAd.out.mono ?_)
          rintro e w5 ⟨rfl, hs5, hg5⟩
          have HS5 := Lib.hid ((HSj.out.step (Below.refl _ _).drew).write (k := i) (Nat.lt_succ_self i) (by rw [updP_same]; exact hs5) (by rw [updP_same]; exact hg5))
          clear hs5 hg5 HAd hcs hlk hcz
          go_wp2_with fail
          go_roundw
          case rel => exact ⟨j + 1, _, by go_num, by omega, HS5.out, HNx.out⟩
          case measure => simp [intOf]; omega
        · obtain rfl : nl = j := by omega
          go_wp2_with fail
          go_roundw
          case rel => exact ⟨i + 1, _, _, by go_num, by omega, HSj.out, HCj.out.close HLi.out HNl.out⟩
          case measure => simp [intOf]; omega
    · obtain rfl : nb = i := by omega
      go_wp2_with (refine wpList_make_rows rfl _ _ rfl na rfl rfl (by omega) ?_; intro cs hcs1 hcs2; have HTu := Lib.hid (TuJ.start (W := wr) hcs1 hcs2); clear hcs1 hcs2)
      obtain ⟨go, hgo⟩ : ∃ go, wr.heap.size = go := ⟨_, rfl⟩
      have HGo := Lib.hid hgo
      rw [hgo] at HTu ⊢
      obtain ⟨W4, hW4⟩ : ∃ W4, W4 = wr := ⟨_, rfl⟩
      clear hgo hlt
      subst hW4
      go_loopw [63] (fun iv wq => ∃ (i : Nat) (vals : Nat → Value) (P : Nat → List Int), iv = .int .i64 (i : Int) ∧ i ≤ na ∧ TuJ W4 go na vals P wq ∧ RwD fp a b i vals P) (fun iv _ => na - (intOf iv).toNat)
      case atStart => exact ⟨0, _, _, rfl, by omega, HTu.out, ⟨fun k l hk => absurd hk (by omega), fun k _ => ⟨rfl, rfl⟩⟩⟩
      case round =>
        obtain ⟨i, vals, P, rfl, hin, hT, hR⟩ := hrel
        obtain ⟨W5, hW5⟩ : ∃ W5, W5 = wr := ⟨_, rfl⟩
        subst hW5
        have HT := Lib.hid hT
        have HR := Lib.hid hR
        have HBi := Lib.hid (HBr.out.trans (hT.bel.mono HBr.out.size))
        clear hT hR
        by_cases hlt : i < na
        · obtain ⟨ada, ul, l, rfl, hbd, hl, hcl0, hin2⟩ := HA.out.at_ hlt
          have hcl := (HBi.out.cell (p := ada.add i) (by rw [add_block]; exact hbd)).trans hcl0
          obtain ⟨Al, cl, rfl, _⟩ := hin2.form
          have HAl2 := Lib.hid (show InA w w.heap.size Al l from by obtain ⟨_, _, e, _, _, h⟩ := hin2; cases e; exact h)
          obtain ⟨hl1, hl2⟩ := HAl.out l (List.mem_of_getElem? hl)
          have HLw := Lib.hid hl2
          have HLi := Lib.hid hl
          obtain ⟨nl, hnl⟩ : ∃ nl, l.length = nl := ⟨_, rfl⟩
          have HNl := Lib.hid hnl
          rw [hnl] at hcl hl1
          have HNs := Lib.hid (newSet_any nv nw W5 HNw.out hvl)
          obtain ⟨gw, hgw⟩ : ∃ gw, W5.heap.size = gw := ⟨_, rfl⟩
          have HGw := Lib.hid hgw
          rw [hgw] at HNs
          have hnw9 : nw ≤ 100000 := by have := HNw.out; omega
          clear hcl0 hbd hin2 hl2 hl hnl hgw
          go_wp2_with fail
          (with_reducible refine HNs.out.mono ?_)
          rintro e wn ⟨rfl, hbn⟩
          have HSn := Lib.hid hbn
          clear hbn HNs hcl
          go_wp2_with fail
          go_loopw [73] (fun jv wq => ∃ (j : Nat) (wd : Nat → Nat), jv = .int .i64 (j : Int) ∧ j ≤ nl ∧ BsI W5 gw nw wd wq ∧ AlD fp b V l j wd) (fun jv _ => nl - (intOf jv).toNat)
          case atStart => exact ⟨0, _, rfl, by omega, HSn.out, AlD.zero _ _ _ _⟩
          case round =>
            obtain ⟨j, wd, rfl, hjn, hS, hC⟩ := hrel
            have HSj := Lib.hid hS
            have HCj := Lib.hid hC
            have HBj := Lib.hid (HBi.out.trans (hS.bel.mono HBi.out.size))
            have HTj := Lib.hid (HT.out.step hS.bel)
            clear hS hC
            by_cases hjt : j < nl
            · obtain ⟨z, adl, hz, rfl, hbz, hcz0⟩ := HAl2.out.at_ HNl.out hjt
              have hcz := (HBj.out.cell (p := adl.add j) (by rw [add_block]; exact hbz)).trans hcz0
              obtain ⟨hz1, k, hk, hkb⟩ := HLw.out z (List.mem_of_getElem? hz)
              have HZw := Lib.hid (wf_nm hz1)
              have HZk := Lib.hid hk
              obtain ⟨bl, hbl'⟩ : ∃ bl, b[k]? = some bl := ⟨_, List.getElem?_eq_getElem (by have := HNb.out; omega)⟩
              have HSk := Lib.hid (HS.out.step (HTj.out.bel))
              have hcs := HSk.out.cell hkb
              have HPz := Lib.hid (HP.out.step HBj.out)
              have HJo := Lib.hid (setJoin_any W5 w2 gw (gk k) nw wd (wds k) wr HSj.out (HSk.out.set k hkb) (by have h1 := (HS.out.step HT.out.bel).set k hkb |>.lt; have := HGw.out; omega) (by have := HGw.out; have := (HS.out.step HT.out.bel).bel.size; omega) hnw9)
              have HNx := Lib.hid (HCj.out.next hz hk hbl' (fun p y hy => HD.out k bl p y hkb hbl' hy))
              clear hcz0 hbz hz hz1 hk hbl'
              go_wp2_with (first | (at_lookup; refine wpList_lookup_mi rfl _ _ rfl HPz.out rfl z rfl HZw.out ?_; rw [HZk.out]))
              (with_reducible refine HJo.out.mono ?_)
              rintro e w5 ⟨rfl, hs5, hg5⟩
              have HS5 := Lib.hid hs5
              clear hs5 hg5 HJo hcs hcz
              go_wp2_with fail
              go_roundw
              case rel => exact ⟨j + 1, _, by go_num, by omega, HS5.out, HNx.out⟩
              case measure => simp [intOf]; omega
            · obtain rfl : nl = j := by omega
              have HRw := Lib.hid (HCj.out.row HNl.out HVi.out HVm.out HNv.out)
              obtain ⟨V6, hV6⟩ : ∃ V6, V6 = wr := ⟨_, rfl⟩
              subst hV6
              have HVc := Lib.hid (show InA V6 w2.heap.size Av V from HV2.out.below (HS.out.bel.trans (HTj.out.bel.mono HS.out.bel.size)))
              have HGg := Lib.hid (show gw ≠ go ∧ W4.heap.size ≤ gw from ⟨by have := HT.out.lt; have := HGw.out; omega, by have := HT.out.bel.size; have := HGw.out; omega⟩)
              have HR0 := Lib.hid (HR.out.2 i (Nat.le_refl i))
              clear hjt
              go_wp2_with fail
              go_loopw [88] (fun jv wq => ∃ (j : Nat) (vals' : Nat → Value) (P' : Nat → List Int), jv = .int .i64 (j : Int) ∧ j ≤ nv ∧ TuJ W4 go na vals' P' wq ∧ BsI W4 gw nw wd wq ∧ P' i = rowS V (bit wd) j ∧ (∀ k, k ≠ i → vals' k = vals k) ∧ (∀ k, k ≠ i → P' k = P k) ∧ (∀ g, (vals' i).ownBlock = some g → g ≠ gw)) (fun jv _ => nv - (intOf jv).toNat)
              case atStart => exact ⟨0, vals, P, rfl, by omega, HTj.out, HSj.out.low HT.out.bel, HR0.out.2, fun _ _ => rfl, fun _ _ => rfl, fun g e => by rw [HR0.out.1] at e; cases e⟩
              case round =>
                obtain ⟨j, vals', P', rfl, hjn, hT, hS, hP1, hv, hP2, hg⟩ := hrel
                have HT5 := Lib.hid hT
                have HS5 := Lib.hid hS
                have HQ5 := Lib.hid (And.intro hP1 (And.intro hv (And.intro hP2 hg)))
                have HB5 := Lib.hid (hT.bel)
                clear hT hS hP1 hv hP2 hg
                by_cases hjt : j < nv
                · obtain ⟨y, adv, hy, rfl, hby, hcy0⟩ := (HV2.out.below (HS.out.bel.trans (HB5.out.mono HS.out.bel.size))).at_ HNv.out hjt
                  have HYj := Lib.hid hy
                  have HHs := Lib.hid (setHas_any W4 gw nw wd j wr HS5.out (by have := HNw.out; omega) (by omega))
                  have HNx := Lib.hid (rowS_next (S := bit wd) hy)
                  clear hby hy
                  go_wp2_with fail
                  (with_reducible refine HHs.out.mono ?_)
                  rintro e w5 ⟨rfl, rfl⟩
                  have hbt : (wd (j / 64)).testBit (j % 64) = bit wd j := rfl
                  rw [hbt]
                  cases hS : bit wd j with
                  | false =>
                    rw [hS] at HNx
                    clear hS hbt HHs hcy0
                    go_wp2_with fail
                    go_roundw
                    case rel => exact ⟨j + 1, vals', P', by go_num, by omega, HT5.out, HS5.out, by rw [HNx.out, HQ5.out.1]; simp, HQ5.out.2.1, HQ5.out.2.2.1, HQ5.out.2.2.2⟩
                    case measure => simp [intOf]; omega
                  | true =>
                    rw [hS] at HNx
                    clear hS hbt HHs
                    have HPl := Lib.hid (show (P' i).length ≤ 2000000 from by rw [HQ5.out.1]; have := rowS_len V (bit wd) j; omega)
                    have hco := HT5.out.cell hlt
                    have HTb := Lib.hid (HT5.out.step (below_new (.cells #[.int .i64 y] 3)))
                    have HSb := Lib.hid (HS5.out.step (below_new (.cells #[.int .i64 y] 3)))
                    have HBx := Lib.hid (World.alloc_heap_new wr (.cells #[.int .i64 y] 3))
                    clear hcy0
                    go_wp2_with (at_builtin; refine wpList_appO rfl _ _ rfl (show OwN W4 (vals' i) (P' i) _ from ⟨HTb.out.bel, HTb.out.own i hlt⟩) rfl rfl (box_sl HBx.out) (by have := HPl.out; simp only [List.length_singleton]; omega) ?_; intro v' w6 h1 h2 h3; obtain ⟨A7, c7, rfl, _⟩ := h1.sl.form; obtain ⟨HTp, hc6, hf6⟩ := HTb.out.push hlt h1.own h2 h3; simp only [List.length_append, List.length_singleton] at HTp h3; have HT6 := Lib.hid HTp; have HG6 := Lib.hid (And.intro h2 h3); clear h1 h2 h3 HTp)
                    go_roundw
                    case rel =>
                      refine ⟨j + 1, _, _, by go_num, by omega, HT6.out, ?_, ?_, ?_, ?_, ?_⟩
                      · refine (HSb.out.kept HG6.out.1 fun r e => ⟨((HTb.out.own i hlt).lt r e).1, HQ5.out.2.2.2 r e⟩).kept (setCell_grown' w6 go i _) fun r e => ?_
                        injection e with e
                        subst e
                        exact ⟨HTb.out.base, fun e => HGg.out.1 e.symm⟩
                      · rw [updP_same, HNx.out, HQ5.out.1]; simp
                      · intro k hk; rw [updP_other _ _ hk]; exact HQ5.out.2.1 k hk
                      · intro k hk; rw [updP_other _ _ hk]; exact HQ5.out.2.2.1 k hk
                      · intro g e
                        rw [updP_same] at e
                        rcases HG6.out.2 with h | h
                        · exact HQ5.out.2.2.2 g (h.symm.trans e)
                        · have h2 := h.symm.trans e
                          injection h2 with h2
                          have := HSb.out.lt
                          omega
                    case measure => simp [intOf]; omega
                · obtain rfl : nv = j := by omega
                  go_wp2_with fail
                  go_roundw
                  case rel => exact ⟨i + 1, vals', P', by go_num, by omega, HT5.out, HR.out.next HLi.out (by rw [HQ5.out.1]; exact HRw.out) HQ5.out.2.1 HQ5.out.2.2.1⟩
                  case measure => simp [intOf]; omega
        · obtain rfl : na = i := by omega
          go_wp2_with fail
          go_ret
          exact ⟨⟨_, _, rfl, HT.out.sl, HR.out.fin HNa.out⟩, HBi.out⟩
end Go.Proofs.YtplpogonkfnafaaGreat
