/- A line of a text is written: the program. -/
import Derived.Test.YtijidcigfdblaaaGreatDoorShTa
namespace Go.Proofs.YtijidcigfdblaaaGreatDoor
open Go.RowKit Go.Nm Go.Sh Go.Plc

theorem infoU8 : (Tryz.prog.info? 5).map (fun i => (i.zero, i.size, i.bytes)) = some (some (.int .u8 0), 1, 1) := by kernel_rfl
/-- bytes of the call's own, and what else is kept -/
structure ByI (B : Nat) (w0 : World) (v : Value) (l : List UInt8) (X : World) : Prop where
  own : X.ownsRow B 5 1 v l.length (Lib.byteCells l)
  bel : Below B w0 X
  oth : Lib.OthersKept 5 none w0 X
theorem ByI.step {B : Nat} {w0 X Y : World} {v : Value} {l : List UInt8} (h : ByI B w0 v l X) (hB : B ≤ w0.heap.size) (hb : Below X.heap.size X Y) : ByI B w0 v l Y :=
  ⟨own_step h.own hb, h.bel.trans (hb.mono (Nat.le_trans hB h.bel.size)), h.oth.below hb⟩
theorem byteCells_app (a b : List UInt8) : Lib.byteCells a ++ Lib.byteCells b = Lib.byteCells (a ++ b) := by unfold Lib.byteCells; rw [List.map_append]
theorem ByI.grown {B : Nat} {w0 X Y : World} {v v' : Value} {l m : List UInt8} {n : Nat} {xs : List Value} (h : ByI B w0 v l X) (hB : B ≤ w0.heap.size) (hn : n = m.length) (hx : xs = Lib.byteCells m) (ho : Y.ownsRow B 5 1 v' n xs) (hg : X.grownBy Y v.ownBlock) : ByI B w0 v' m Y := by
  subst hn; subst hx
  exact ⟨ho, h.bel.grown hg (Nat.le_trans hB h.bel.size) (fun r e => (h.own.lt r e).1), h.oth.trans (othersKept_own h.own hg)⟩
theorem numT_next {ns : List Int} {i : Nat} {n : Int} (h : ns[i]? = some n) : numT (ns.take (i + 1)) = numT (ns.take i) ++ (32 :: itT n) := by
  unfold numT
  rw [show ns.take (i + 1) = ns.take i ++ [n] from by rw [List.take_add_one, h]; rfl, List.flatMap_append]
  simp
theorem itT_len {n : Int} (h : i64B n) : (itT n).length ≤ 21 := by
  rw [← itoa_it h]; exact Lib.itoa_length_le n h.1 h.2
theorem numT_len {ns : List Int} (h : ∀ n ∈ ns, i64B n) : ∀ i, (numT (ns.take i)).length ≤ 22 * i
  | 0 => by simp [numT]
  | i + 1 => by
    have ih := numT_len h i
    cases hx : ns[i]? with
    | none =>
      rw [List.take_of_length_le (by have := List.getElem?_eq_none_iff.1 hx; omega)]
      rw [List.take_of_length_le (by have := List.getElem?_eq_none_iff.1 hx; omega)] at ih
      omega
    | some n =>
      have := itT_len (h n (List.mem_of_getElem? hx))
      rw [numT_next hx, List.length_append, List.length_cons]
      omega
theorem cells_u8 {w : World} {g : Nat} {b : Int} {t : TypeId} (h : w.heap[g]? = some (.cells #[.int .u8 b] t)) : ∀ j u, ([.int .u8 b] : List Value)[j]? = some u → w.cell? ((⟨g, 0, none⟩ : Addr).add j) = some u := by
  intro j u hj
  rw [add_zeroB]
  simpa [World.cell?, h] using hj
set_option maxRecDepth 100000 in
set_option maxHeartbeats 4000000 in
theorem writeLine_any (B : Nat) (sv vn : Value) (l word : List UInt8) (ns : List Int) (w : World) (hown : w.ownsRow B 5 1 sv l.length (Lib.byteCells l)) (hB : B ≤ w.heap.size) (hT : Lib.TabBelow Tryz.prog B w "internal/strconv.uint64pow10" .u64 Lib.pow10Tab)
    (hn : NsI w vn ns) (hi : ∀ n ∈ ns, i64B n) (hl : l.length ≤ 1000000) (hw : word.length ≤ 100) (hns : ns.length ≤ 1000) :
    Calls Tryz.prog 85 #[sv, str word, vn] w fun e w' => ∃ v', e = .returned v' ∧ ByI B w v' (l ++ lineT word ns) w' := by
  obtain ⟨A, c, rfl⟩ := hn.form
  obtain ⟨i0, hi0, hz0, hz1, hz2⟩ := info_parts infoU8
  have HI := Lib.hid (And.intro hi0 (And.intro hz0 (And.intro hz1 hz2)))
  have HN := Lib.hid hn
  have HT := Lib.hid hT
  have HR := Lib.hid hi
  have HO := Lib.hid hown
  have HLn := Lib.hid (numT_len hi)
  obtain ⟨n, hn'⟩ : ∃ n, ns.length = n := ⟨_, rfl⟩
  have HNl := Lib.hid hn'
  rw [hn'] at hns HN ⊢
  obtain ⟨wl, hwl⟩ : ∃ n, word.length = n := ⟨_, rfl⟩
  have HWl := Lib.hid hwl
  rw [hwl] at hw
  obtain ⟨ll, hll⟩ : ∃ n, l.length = n := ⟨_, rfl⟩
  have HLl := Lib.hid hll
  rw [hll] at hl
  obtain ⟨s, hs⟩ : ∃ s : ByteArray, (⟨word.toArray⟩ : ByteArray) = s := ⟨_, rfl⟩
  have HS := Lib.hid (show s.size = wl ∧ Lib.strCells s = Lib.byteCells word from by rw [← hs, ← hwl]; exact ⟨rfl, rfl⟩)
  unfold str
  rw [hs]
  clear hn hT hi hown hn' hi0 hz0 hz1 hz2 hwl hll hs
  go_enter Tryz.func85, Tryz.ntmps85
  go_wp2_with (at_builtin; refine Lib.wpList_append_own_string _ rfl _ _ 123 9 rfl B 5 i0 Tryz.underlying123 Tryz.underlying9 HI.out.1 HI.out.2.1 HI.out.2.2.1 HI.out.2.2.2 sv l.length (Lib.byteCells l) rfl HO.out s rfl (by unfold maxLen; have := HS.out.1; have := HLl.out; omega) (by have := HS.out.1; have := HLl.out; omega) hB ?_; intro v1 w1 ho1 hg1 _; refine Hid.out ?_)
  refine Lib.hid ?_
  have H1 := Lib.hid (show ByI B w v1 (l ++ word) w1 from ByI.grown ⟨HO.out, Below.refl _ _, Lib.OthersKept.refl _ _ _⟩ hB (by rw [List.length_append, HS.out.1, HWl.out]) (by rw [HS.out.2, byteCells_app]) ho1 hg1)
  clear ho1 hg1
  go_wp2_with fail
  go_loopw [0, 14] (fun tv iv wr => ∃ i : Nat, iv = .int .i64 (i : Int) ∧ i ≤ n ∧ ByI B w tv (l ++ word ++ numT (ns.take i)) wr) (fun _ iv _ => n - (intOf iv).toNat)
  case atStart => exact ⟨0, rfl, by omega, by rw [show numT (ns.take 0) = [] from rfl, List.append_nil]; exact H1.out⟩
  case round =>
    obtain ⟨i, rfl, hin, hb⟩ := hrel
    have HB := Lib.hid hb
    have HLi := Lib.hid (show (l ++ word ++ numT (ns.take i)).length ≤ 1023100 ∧ (l ++ word ++ numT (ns.take i)).length = ll + wl + (numT (ns.take i)).length from by
      have := HLn.out i
      rw [List.length_append, List.length_append, HLl.out, HWl.out]; omega)
    by_cases hlt : i < n
    · obtain ⟨x, hx⟩ : ∃ x, ns[i]? = some x := ⟨_, List.getElem?_eq_getElem (by rw [HNl.out]; exact hlt)⟩
      obtain ⟨ad, rfl, hcx⟩ := (HN.out.kept hb.oth).at_ hx
      have hxi := HR.out x (List.mem_of_getElem? hx)
      have HX := Lib.hid (numT_next hx)
      have HIt := Lib.hid (itT_len hxi)
      have HXi := Lib.hid hxi
      obtain ⟨b, hbl⟩ : ∃ b, (l ++ word ++ numT (ns.take i)) = b := ⟨_, rfl⟩
      rw [hbl] at HB HLi
      have HBl := Lib.hid hbl
      clear hx hxi hb hbl
      have hn2 := World.alloc_heap_new wr (.cells #[.int .u8 32] 5)
      have hb2 := below_new (w := wr) (.cells #[.int .u8 32] 5)
      have HB2 := Lib.hid (HB.out.step hB hb2)
      have HC2 := Lib.hid (cells_u8 hn2)
      clear hn2 hb2
      go_wp2_with (at_builtin; refine wpList_append_own _ rfl _ _ 123 rfl B 5 i0 (.int .u8 0) 1 1 Tryz.underlying123 HI.out.1 HI.out.2.1 HI.out.2.2.1 HI.out.2.2.2 rfl (by decide) _ _ _ rfl HB2.out.own ⟨wr.heap.size, 0, none⟩ 1 1 [.int .u8 32] rfl rfl HC2.out (by intro u hu; simp at hu; subst hu; rfl) (by unfold maxLen; have := HLi.out.1; omega) (by have := HLi.out.1; omega) (by have := HB2.out.bel.size; omega) ?_; intro v3 w3 ho3 hg3 _; refine Hid.out ?_)
      refine Lib.hid ?_
      have H3 := Lib.hid (show ByI B w v3 (b ++ [32]) w3 from ByI.grown HB2.out hB (by simp) (by rw [← byteCells_app]; rfl) ho3 hg3)
      clear ho3 hg3
      have HA := Lib.hid (Any.strconv_AppendInt_10 Tryz.appendIntM B _ x HXi.out.1 HXi.out.2 v3 _ w3 H3.out.own (Nat.le_trans hB H3.out.bel.size) (by rw [List.length_append]; have := HLi.out.1; simp; omega) (HT.out.on H3.out.bel))
      go_wp2_with fail
      refine HA.out.mono ?_
      rintro e w4 ⟨v4, rfl, ho4, hb4, hk4⟩
      have H4 := Lib.hid (show ByI B w v4 (l ++ word ++ numT (ns.take (i + 1))) w4 from by
        have e1 : b ++ [32] ++ itT x = l ++ word ++ numT (ns.take (i + 1)) := by rw [HX.out, ← HBl.out]; simp
        rw [itoa_it HXi.out] at ho4
        rw [← e1]
        refine ⟨?_, H3.out.bel.trans hb4, H3.out.oth.trans hk4⟩
        rw [List.length_append, ← byteCells_app]
        exact ho4)
      clear ho4 hb4 hk4 HA
      go_wp2_with fail
      go_roundw
      case rel => exact ⟨i + 1, by go_num, by omega, H4.out⟩
      case measure => simp [intOf]; omega
    · obtain rfl : n = i := by omega
      have HE := Lib.hid (show l ++ word ++ numT (ns.take n) = l ++ word ++ numT ns from by rw [List.take_of_length_le (by rw [HNl.out]; exact Nat.le_refl _)])
      clear hb
      have hn2 := World.alloc_heap_new wr (.cells #[.int .u8 10] 5)
      have hb2 := below_new (w := wr) (.cells #[.int .u8 10] 5)
      have HB2 := Lib.hid (HB.out.step hB hb2)
      have HC2 := Lib.hid (cells_u8 hn2)
      clear hn2 hb2
      go_wp2_with (at_builtin; refine wpList_append_own _ rfl _ _ 123 rfl B 5 i0 (.int .u8 0) 1 1 Tryz.underlying123 HI.out.1 HI.out.2.1 HI.out.2.2.1 HI.out.2.2.2 rfl (by decide) _ _ _ rfl HB2.out.own ⟨wr.heap.size, 0, none⟩ 1 1 [.int .u8 10] rfl rfl HC2.out (by intro u hu; simp at hu; subst hu; rfl) (by unfold maxLen; have := HLi.out.1; omega) (by have := HLi.out.1; omega) (by have := HB2.out.bel.size; omega) ?_; intro v3 w3 ho3 hg3 _; refine Hid.out ?_)
      refine Lib.hid ?_
      have H3 := Lib.hid (show ByI B w v3 (l ++ lineT word ns) w3 from ByI.grown HB2.out hB (by rw [HE.out]; unfold lineT; simp; omega) (by rw [HE.out, show l ++ lineT word ns = (l ++ word ++ numT ns) ++ [10] from by unfold lineT; simp, ← byteCells_app (l ++ word ++ numT ns) [10]]; rfl) ho3 hg3)
      clear ho3 hg3
      go_wp2_with fail
      go_ret
      exact ⟨_, rfl, H3.out⟩
end Go.Proofs.YtijidcigfdblaaaGreatDoor
