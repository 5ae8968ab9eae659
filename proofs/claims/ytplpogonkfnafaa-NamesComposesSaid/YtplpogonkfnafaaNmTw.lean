/- NamesTurns: the walk. -/
import Derived.Test.YtplpogonkfnafaaNmTv
import Derived.Test.YtplpogonkfnafaaNmQC
import Derived.Test.YtplpogonkfnafaaNmBh
import Derived.Test.YtplpogonkfnafaaNmRm
namespace Go.Proofs.Ytplpogonkfnafaa
open Go.RowKit Go.Nm

theorem tr_map {f : Int → List Int} {y : Int} : ∀ fr : List Int, tr y ((fr.map f).zip fr) = fr.filter fun x => decide (y ∈ f x)
  | [] => rfl
  | x :: fr => by
    have ih := tr_map (f := f) (y := y) fr
    unfold tr at ih ⊢
    rw [List.map_cons, List.zip_cons_cons, List.filter_cons, List.filter_cons]
    by_cases h : y ∈ f x <;> simp [h, ih]
theorem turn_steps {b : Bk} (hb : Val b) {n m : Nat} {A B : List Int} (hA : (vers b)[n]? = some A) (hB : (vers b)[m]? = some B) (hn : n ≤ b.chs.length) (hm : m ≤ b.chs.length) : turnF (A.map fun x => mns b.chs n [x] m) A B = B.map fun y => mns b.chs m [y] n := by
  unfold turnF
  refine List.map_congr_left fun y hy => ?_
  rw [tr_map]
  obtain ⟨A', hA', h1, h2⟩ := mns_ok hb hB (l := [y]) (by simp [Inc]) (by simp; exact hy) hm hn
  rw [hA] at hA'
  injection hA' with hA'
  subst hA'
  refine inc_ext ((vers_ver A (List.mem_of_getElem? hA)).2.2.1.sub List.filter_sublist) h1 fun z => ?_
  rw [List.mem_filter, decide_eq_true_eq]
  constructor
  · rintro ⟨hz, h⟩
    exact (mns_symm hb hA hB hz hy hn hm).1 h
  · intro h
    exact ⟨h2 z h, (mns_symm hb hA hB (h2 z h) hy hn hm).2 h⟩
structure TwD (b : Bk) (S T : List (List Int)) (A B : List Int) : Prop where
  a : Ver A
  b : Ver B
  sl : S.length = A.length
  tl : T.length = B.length
  s : ∀ l ∈ S, Inc l ∧ (∀ z ∈ l, z ∈ B) ∧ l.length ≤ 1000
  t : ∀ l ∈ T, Inc l ∧ (∀ z ∈ l, z ∈ A) ∧ l.length ≤ 1000
  st : turnF S A B = T
  ts : turnF T B A = S
theorem tw_data {b : Bk} {n m : Int} {S T : List (List Int)} {A B : List Int} {e f g h : Int} (h1 : stepsOut b n m = (S, e)) (h2 : stepsOut b m n = (T, f)) (h3 : namesOut b n = (A, g)) (h4 : namesOut b m = (B, h)) :
    f = e ∧ (e = 0 → g = 0 ∧ h = 0 ∧ TwD b S T A B) := by
  unfold stepsOut at h1 h2
  rw [openE_two b n m] at h2
  by_cases he : openE b [n, m] = 0
  · rw [if_pos he] at h1 h2
    injection h1 with h1 h1'
    injection h2 with h2 h2'
    refine ⟨by rw [← h1', ← h2'], fun _ => ?_⟩
    obtain ⟨hv, hV⟩ := openE_val he
    have hn := hV n (by simp)
    have hm := hV m (by simp)
    have en : openE b [n] = 0 := by
      unfold openE; rw [if_pos hv, if_pos (fun v hv2 => by simp at hv2; subst hv2; exact hn)]
    have em : openE b [m] = 0 := by
      unfold openE; rw [if_pos hv, if_pos (fun v hv2 => by simp at hv2; subst hv2; exact hm)]
    unfold namesOut at h3 h4
    rw [if_pos en] at h3
    rw [if_pos em] at h4
    injection h3 with h3 h3'
    injection h4 with h4 h4'
    rw [val_len hv] at hn hm
    obtain ⟨k, rfl⟩ : ∃ k : Nat, n = (k : Int) := ⟨n.toNat, by omega⟩
    obtain ⟨j, rfl⟩ : ∃ j : Nat, m = (j : Int) := ⟨m.toNat, by omega⟩
    rw [Int.toNat_natCast] at h3 h4
    rw [Int.toNat_natCast, Int.toNat_natCast] at h1 h2
    have hk : k ≤ b.chs.length := by omega
    have hj : j ≤ b.chs.length := by omega
    obtain ⟨A', hA, hAi, hAl⟩ := vers_at hv hk
    obtain ⟨B', hB, hBi, hBl⟩ := vers_at hv hj
    have eA : (vers b).getD k [] = A' := by rw [List.getD_eq_getElem?_getD, hA]; rfl
    have eB : (vers b).getD j [] = B' := by rw [List.getD_eq_getElem?_getD, hB]; rfl
    unfold stF at h1 h2
    rw [eA] at h1 h3
    rw [eB] at h2 h4
    subst h3 h4 h1 h2
    refine ⟨h3'.symm, h4'.symm, vers_ver _ (List.mem_of_getElem? hA), vers_ver _ (List.mem_of_getElem? hB), List.length_map _, List.length_map _, fun l hl => ?_, fun l hl => ?_, turn_steps hv hA hB hk hj, turn_steps hv hB hA hj hk⟩
    · obtain ⟨x, hx, rfl⟩ := List.mem_map.1 hl
      obtain ⟨C, hC, i1, i2⟩ := mns_ok hv hA (l := [x]) (by simp [Inc]) (by simp; exact hx) hk hj
      rw [hB] at hC
      injection hC with hC
      subst hC
      exact ⟨i1, i2, Nat.le_trans (inc_sub_len i1 i2) (by omega)⟩
    · obtain ⟨x, hx, rfl⟩ := List.mem_map.1 hl
      obtain ⟨C, hC, i1, i2⟩ := mns_ok hv hB (l := [x]) (by simp [Inc]) (by simp; exact hx) hj hk
      rw [hA] at hC
      injection hC with hC
      subst hC
      exact ⟨i1, i2, Nat.le_trans (inc_sub_len i1 i2) (by omega)⟩
  · rw [if_neg he] at h1 h2
    injection h1 with h1 h1'
    injection h2 with h2 h2'
    exact ⟨by rw [← h1', ← h2'], fun h0 => absurd (h1'.trans h0) he⟩
set_option maxRecDepth 100000 in
set_option maxHeartbeats 16000000 in
theorem NamesTurns_any (v vc : Value) (b : Bk) (n m : Int) (w : World) (hv : BkV w v b vc) :
    Calls Try.prog 9 #[v, .int .i64 n, .int .i64 m] w fun e w' => e = .returned (.bool true) ∧ Below w.heap.size w w' := by
  obtain ⟨A1, c1, A2, c2, W0, rfl, rfl, hW0, hb0, hB0, hx⟩ := bk_box hv
  have HB0 := Lib.hid hb0
  have HBk0 := Lib.hid hB0
  have HX := Lib.hid hx
  have HW0 := Lib.hid hW0
  have HAw := Lib.hid (awake_any W0)
  clear hb0 hB0 hx hW0 hv
  go_enter Try.func9, Try.ntmps9
  go_wp2_with fail
  rw [HW0.out]
  (with_reducible refine HAw.out.mono ?_)
  rintro e Y1 ⟨rfl, hb⟩
  have HB1 := Lib.hid hb
  have HBk1 := Lib.hid (HBk0.out.step hb)
  have HSm := Lib.hid (small_any _ _ b Y1 HBk1.out)
  obtain ⟨k0, k1⟩ := HX.out Y1 hb
  clear hb HBk0 HAw
  go_wp2_with fail
  (with_reducible refine HSm.out.mono ?_)
  rintro e Y2 ⟨⟨r, rfl, hs⟩, hb⟩
  have HB2 := Lib.hid (HB1.out.trans (hb.mono HB1.out.size))
  have HBk2 := Lib.hid (HBk1.out.step hb)
  have HS := Lib.hid hs
  clear k0 k1 hb HSm HB1 HBk1 hs
  obtain ⟨k0, k1⟩ := HX.out Y2 HB2.out
  cases r with
  | false =>
    go_wp2_with fail
    go_ret
    exact ⟨rfl, HB0.out.trans (HB2.out.mono HB0.out.size)⟩
  | true =>
    have HS1 := Lib.hid (HS.out rfl)
    obtain ⟨⟨S, e1⟩, h1⟩ : ∃ o, stepsOut b n m = o := ⟨_, rfl⟩
    obtain ⟨⟨T, e2⟩, h2⟩ : ∃ o, stepsOut b m n = o := ⟨_, rfl⟩
    obtain ⟨⟨A, e3⟩, h3⟩ : ∃ o, namesOut b n = o := ⟨_, rfl⟩
    obtain ⟨⟨B, e4⟩, h4⟩ : ∃ o, namesOut b m = o := ⟨_, rfl⟩
    have HD := Lib.hid (tw_data h1 h2 h3 h4)
    have HC1 := Lib.hid (fun Y (hb : Below Y2.heap.size Y2 Y) => Steps_any _ _ b n m Y (HBk2.out.step hb) HS1.out)
    have HC2 := Lib.hid (fun Y (hb : Below Y2.heap.size Y2 Y) => Steps_any _ _ b m n Y (HBk2.out.step hb) HS1.out)
    have HC3 := Lib.hid (fun Y (hb : Below Y2.heap.size Y2 Y) => Names_any _ _ b n Y (HBk2.out.step hb) HS1.out)
    have HC4 := Lib.hid (fun Y (hb : Below Y2.heap.size Y2 Y) => Names_any _ _ b m Y (HBk2.out.step hb) HS1.out)
    simp only [h1] at HC1
    simp only [h2] at HC2
    simp only [h3] at HC3
    simp only [h4] at HC4
    have HB2' := Lib.hid (Below.refl Y2.heap.size Y2)
    clear h1 h2 h3 h4 HS HBk2
    have HCc := Lib.hid (HC1.out _ HB2'.out)
    go_wp2_with fail
    (with_reducible refine HCc.out.mono ?_)
    rintro e Z1 ⟨⟨un1, rfl, hn⟩, hb⟩
    obtain ⟨An1, cn1, rfl⟩ := hn.form
    have HN1 := Lib.hid hn
    clear hn
    have HX1 := Lib.hid (HB2'.out.trans (hb.mono HB2'.out.size))
    clear k0 k1 hb HCc HC1
    obtain ⟨k0, k1⟩ := HX.out Z1 (HB2.out.trans (HX1.out.mono HB2.out.size))
    have HCc := Lib.hid (HC2.out _ HX1.out)
    go_wp2_with fail
    (with_reducible refine HCc.out.mono ?_)
    rintro e Z2 ⟨⟨un2, rfl, hn⟩, hb⟩
    obtain ⟨An2, cn2, rfl⟩ := hn.form
    have HN2 := Lib.hid hn
    clear hn
    have HX2 := Lib.hid (HX1.out.trans (hb.mono HX1.out.size))
    have HN1 := Lib.hid ((HN1.out.below hb).mono hb.size)
    clear k0 k1 hb HCc HC2
    obtain ⟨k0, k1⟩ := HX.out Z2 (HB2.out.trans (HX2.out.mono HB2.out.size))
    have HCc := Lib.hid (HC3.out _ HX2.out)
    go_wp2_with fail
    (with_reducible refine HCc.out.mono ?_)
    rintro e Z3 ⟨⟨un3, rfl, hn⟩, hb⟩
    obtain ⟨An3, cn3, rfl, _⟩ := hn.form
    have HN3 := Lib.hid hn
    clear hn
    have HX3 := Lib.hid (HX2.out.trans (hb.mono HX2.out.size))
    have HN1 := Lib.hid ((HN1.out.below hb).mono hb.size)
    have HN2 := Lib.hid ((HN2.out.below hb).mono hb.size)
    clear k0 k1 hb HCc HC3
    obtain ⟨k0, k1⟩ := HX.out Z3 (HB2.out.trans (HX3.out.mono HB2.out.size))
    have HCc := Lib.hid (HC4.out _ HX3.out)
    go_wp2_with fail
    (with_reducible refine HCc.out.mono ?_)
    rintro e Z4 ⟨⟨un4, rfl, hn⟩, hb⟩
    obtain ⟨An4, cn4, rfl, _⟩ := hn.form
    have HN4 := Lib.hid hn
    clear hn
    have HX4 := Lib.hid (HX3.out.trans (hb.mono HX3.out.size))
    have HN1 := Lib.hid ((HN1.out.below hb).mono hb.size)
    have HN2 := Lib.hid ((HN2.out.below hb).mono hb.size)
    have HN3 := Lib.hid (HN3.out.step hb)
    clear k0 k1 hb HCc HC4
    obtain ⟨k0, k1⟩ := HX.out Z4 (HB2.out.trans (HX4.out.mono HB2.out.size))
    have HBe := Lib.hid (HB0.out.trans ((HB2.out.trans (HX4.out.mono HB2.out.size)).mono HB0.out.size))
    obtain ⟨hfe, hd⟩ := HD.out
    subst hfe
    by_cases he : e2 = 0
    case neg =>
      have hb3 : (e2 != 0) = true := by simpa using he
      clear hd HD
      go_wp2_with fail
      go_ret
      exact ⟨by simp, HBe.out⟩
    case pos =>
      obtain ⟨rfl, rfl, hD⟩ := hd he
      subst he
      have HD2 := Lib.hid hD
      have HTu := Lib.hid (Turn_good _ _ _ S A B Z4 HN1.out HN3.out HN4.out hD.a hD.b hD.sl hD.s)
      rw [hD.st] at HTu
      clear hD HD k0 k1 hd
      go_wp2_with fail
      (with_reducible refine HTu.out.mono ?_)
      rintro e Z5 ⟨⟨ut, rfl, ht⟩, hb⟩
      obtain ⟨At, ct, rfl⟩ := ht.form
      have HBf := Lib.hid (HBe.out.trans (hb.mono HBe.out.size))
      have HTv := Lib.hid (Turn_good _ _ _ T B A Z5 ht (HN4.out.step hb) (HN3.out.step hb) HD2.out.b HD2.out.a HD2.out.tl HD2.out.t)
      rw [HD2.out.ts] at HTv
      have HTt := Lib.hid (And.intro ht (And.intro ((HN2.out.below hb).mono hb.size) ((HN1.out.below hb).mono hb.size)))
      clear ht hb HTu
      go_wp2_with fail
      (with_reducible refine HTv.out.mono ?_)
      rintro e Z6 ⟨⟨us, rfl, hs2⟩, hb⟩
      obtain ⟨As, cs, rfl⟩ := hs2.form
      have HBg := Lib.hid (HBf.out.trans (hb.mono HBf.out.size))
      have HTs := Lib.hid (And.intro hs2 (And.intro ((HTt.out.1.below hb).mono hb.size) (And.intro ((HTt.out.2.1.below hb).mono hb.size) ((HTt.out.2.2.below hb).mono hb.size))))
      have HL1 := Lib.hid (SameLists_any _ _ T T Z6 HTs.out.2.1 HTs.out.2.2.1 (by have := HD2.out.tl; have := HD2.out.b.2.1; omega) (fun l hl => Nat.le_trans (HD2.out.t l hl).2.2 (by omega)) (fun l hl => Nat.le_trans (HD2.out.t l hl).2.2 (by omega)))
      rw [decide_eq_true rfl] at HL1
      clear hs2 hb HTv
      go_wp2_with fail
      (with_reducible refine HL1.out.mono ?_)
      rintro e Z7 ⟨rfl, hb⟩
      have HBh := Lib.hid (HBg.out.trans (hb.mono HBg.out.size))
      have HL2 := Lib.hid (SameLists_any _ _ S S Z7 ((HTs.out.1.below hb).mono hb.size) ((HTs.out.2.2.2.below hb).mono hb.size) (by have := HD2.out.sl; have := HD2.out.a.2.1; omega) (fun l hl => Nat.le_trans (HD2.out.s l hl).2.2 (by omega)) (fun l hl => Nat.le_trans (HD2.out.s l hl).2.2 (by omega)))
      rw [decide_eq_true rfl] at HL2
      clear hb HL1
      go_wp2_with fail
      (with_reducible refine HL2.out.mono ?_)
      rintro e Z8 ⟨rfl, hb⟩
      have HBi := Lib.hid (HBh.out.trans (hb.mono HBh.out.size))
      clear hb
      go_wp2_with fail
      go_ret
      exact ⟨by simp, HBi.out⟩
end Go.Proofs.Ytplpogonkfnafaa
