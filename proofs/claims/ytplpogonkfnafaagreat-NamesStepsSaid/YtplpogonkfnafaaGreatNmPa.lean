
/- valuesOf: what is in some lists, in order, each once. -/
import Derived.Test.YtplpogonkfnafaaGreatNmTu
import Derived.Test.YtplpogonkfnafaaGreatNmLayP
import Derived.Shelf.SlIterI.Nil
import Derived.Shelf.SortM.Plain
import Derived.Shelf.SortM.SortNone
namespace Go.Proofs.YtplpogonkfnafaaGreat
open Go.RowKit Go.Nm Go.Maps Go.Sort Go.Shelf

/-- a map to bools of the call's own: its keys are those of which p is true -/
structure BS (W : World) (mb n : Nat) (p : Int → Bool) (X : World) : Prop where
  bel : Below W.heap.size W X
  new : W.heap.size ≤ mb
  map : ∃ D : DataW Unit, X.ownsMap Tryz.prog 3 (plainElem Tryz.prog 4) mb n D ∧ (∀ k, has D (.int .i64 k) = p k) ∧ size D ≤ n
theorem BS.made (W X : World) (hb : Below W.heap.size W X) : BS W X.heap.size 0 (fun _ => false) (X.alloc (.map #[] 0)) :=
  ⟨hb.alloc hb.size _, hb.size, .map [], World.ownsMap_made _ _ _ _, fun _ => rfl, Nat.le_refl _⟩
section
variable {ops : Array Oper} {rest : List Oper} {o : Oper} {a : Act} {Q : Exit → Act → World → Prop} {W w : World} {mb n : Nat} {p : Int → Bool}
theorem wpList_put_bs (hg : o.guard = none) (m x v : Operand) (hop : o.op = Op.mapUpdate 106 m x v) (hM : BS W mb n p w) (hn : n < maxLen) (hm : a.eval m = .map (some mb)) (z : Int) (hx : a.eval x = .int .i64 z) (hz : (Lit.int .i64 z).wf = true) (hv : a.eval v = .bool true)
    (hK : ∀ w', BS W mb (n + 1) (fun k => decide (k = z) || p k) w' → wpList Tryz.prog ops Q rest (a.put o.dst undef) w') : wpList Tryz.prog ops Q (o :: rest) a w := by
  obtain ⟨hb, hw, D, h1, h2, h6⟩ := hM
  refine wpList_mapUpdate_in w hg m x v 106 hop 3 4 keyI Tryz.underlying106 _ mb n D hm h1 hn _ _ _ hx hv (keyOf_int_mk Tryz.underlying3 hz) _ [] (plainElem_bool Tryz.underlying4 true) ?_
  intro w' h4 h5
  refine hK w' ⟨hb.grown h5.grown hb.size (fun k e => by cases e; exact hw), hw, _, h4, fun k => ?_, ?_⟩
  · by_cases hk : k = z
    · subst hk; rw [has_put_same h1.isMap (isK _)]; simp
    · rw [has_put_other (ne_lit hk), h2]; simp [hk]
  · rw [size_put (h1.tidy keyI)]; split <;> omega
end
/-- p is true of what is in some lists -/
def VP (b : List (List Int)) (p : Int → Bool) : Prop := ∀ y, p y = true ↔ ∃ l ∈ b, y ∈ l
theorem VP.start : VP [] (fun _ => false) := fun y => by simp
theorem VP.open_ {bs : List (List Int)} {p : Int → Bool} (h : VP bs p) (l : List Int) : VP (bs ++ [l.take 0]) p := fun y => by
  rw [h y]
  simp
theorem VP.grow {bs : List (List Int)} {p : Int → Bool} {l : List Int} {j : Nat} {z : Int} (h : VP (bs ++ [l.take j]) p) (hz : l[j]? = some z) : VP (bs ++ [l.take (j + 1)]) (fun k => decide (k = z) || p k) := fun y => by
  rw [show l.take (j + 1) = l.take j ++ [z] from by rw [List.take_add_one, hz]; rfl]
  simp only [Bool.or_eq_true, decide_eq_true_iff, h y, List.mem_append, List.mem_singleton]
  constructor
  · rintro (rfl | ⟨l', h1 | rfl, h2⟩)
    · exact ⟨_, .inr rfl, by simp⟩
    · exact ⟨l', .inl h1, h2⟩
    · exact ⟨_, .inr rfl, by simp [h2]⟩
  · rintro ⟨l', h1 | rfl, h2⟩
    · exact .inr ⟨l', .inl h1, h2⟩
    · rcases List.mem_append.1 h2 with h2 | h2
      · exact .inr ⟨_, .inr rfl, h2⟩
      · exact .inl (by simpa using h2)
theorem VP.close {b : List (List Int)} {p : Int → Bool} {l : List Int} {i j : Nat} (h : VP (b.take i ++ [l.take j]) p) (hl : b[i]? = some l) (hj : l.length = j) : VP (b.take (i + 1)) p := by
  rw [show b.take (i + 1) = b.take i ++ [l] from by rw [List.take_add_one, hl]; rfl]
  rw [show l.take j = l from List.take_of_length_le (by omega)] at h
  exact h
theorem keys_mem {H : Type} {P : Program} {k : TypeId} {R : Value → Option (DataW H × List MemPlace)} {w : World} {b n : Nat} {D : DataW H} (hown : w.ownsMap P k R b n D) (K : Keyed P k) (hk : P.underlying k = some (.int .i64)) : (intKeys D).Nodup ∧ ∀ x, x ∈ intKeys D ↔ has D (.int .i64 x) = true := by
  obtain ⟨es, hD, hpw, _⟩ := hown.entries K
  obtain ⟨es', hD', hko⟩ := hown.keysOf
  obtain rfl : es = es' := by rw [hD] at hD'; simpa using hD'
  subst hD
  have hk' : ∀ p ∈ es, ∃ x, p.1 = .int .i64 x := fun p hp => by obtain ⟨v, hv⟩ := hko p hp; obtain ⟨x, _, hx, _⟩ := Maps.keyOf_i64 hk hv; exact ⟨x, hx⟩
  refine ⟨?_, fun x => ?_⟩
  · show (es.map fun p => Go.intOf p.1).Nodup
    refine List.pairwise_map.2 (hpw.imp_of_mem fun {p q} hp' hq' hne e => hne ?_)
    obtain ⟨a, ha⟩ := hk' p hp'
    obtain ⟨b, hb⟩ := hk' q hq'
    rw [ha, hb] at e ⊢
    exact congrArg _ e
  · rw [has_eq, List.any_eq_true]
    show x ∈ es.map (fun p => Go.intOf p.1) ↔ _
    rw [List.mem_map]
    constructor
    · rintro ⟨p, hp', rfl⟩
      obtain ⟨a, ha⟩ := hk' p hp'
      exact ⟨p, hp', by rw [ha]; simp [Lit.sameKey, Go.intOf]⟩
    · rintro ⟨p, hp', hs⟩
      obtain ⟨a, ha⟩ := hk' p hp'
      rw [ha] at hs
      exact ⟨p, hp', by rw [ha]; simpa [Lit.sameKey, Go.intOf] using hs⟩
/-- sorted, without twins: strictly increasing -/
theorem inc_sorted {ss L : List Int} (hp : ss.Perm L) (hn : L.Nodup) : Inc (ss.mergeSort leI) := by
  have tr : ∀ a b c : Int, leI a b = true → leI b c = true → leI a c = true := fun a b c h1 h2 => by simp only [leI, decide_eq_true_eq] at *; exact Int.le_trans h1 h2
  have to : ∀ a b : Int, (leI a b || leI b a) = true := fun a b => by simp only [leI, Bool.or_eq_true, decide_eq_true_eq]; exact Int.le_total a b
  have h1 := List.pairwise_mergeSort tr to ss
  have h2 : (ss.mergeSort leI).Nodup := ((List.mergeSort_perm ss leI).trans hp).nodup_iff.2 hn
  exact (h1.and h2).imp fun {a b} h => by
    have h3 := h.1
    simp only [leI, decide_eq_true_eq] at h3
    have h4 : a ≠ b := h.2
    omega
theorem mem_sorted {ss L : List Int} (hp : ss.Perm L) (x : Int) : x ∈ ss.mergeSort leI ↔ x ∈ L := ((List.mergeSort_perm ss leI).trans hp).mem_iff
/-- slices.Sort's two contracts, at the fence that asks nothing -/
theorem sorts_a (m : Nat) : AnyZI.SortsIn Tryz.prog Tryz.sortedA_ren Fence.wide m :=
  ⟨fun blk off cap ss W hH hblk hsz => callsIn_wide.2 (AnyM.slices_Sort_int Tryz.sortA blk off cap ss W hH hblk hsz),
   fun p cap W => callsIn_wide.2 (AnyM.slices_Sort_int_none Tryz.sortA p cap W)⟩
theorem keys_call (mb : Option Nat) (W : World) : Calls Tryz.prog 78 #[.map mb] W fun e w' => e = .returned (.func (.func 88) #[] #[.pointer (some ⟨W.heap.size, 0, none⟩)]) ∧ w' = W.alloc (.cells #[.map mb] 106) :=
  (callsIn_wide (n := 5)).1 (AnyZI.keys_in Tryz.keysA Fence.wide 5 trivial rfl mb W)
set_option maxHeartbeats 1000000 in
theorem sorted_call {W0 : World} {mb n : Nat} {p : Int → Bool} {X : World} (h : BS W0 mb n p X) (hn : n ≤ 10000000) :
    Calls Tryz.prog 77 #[.func (.func 88) #[] #[.pointer (some ⟨X.heap.size, 0, none⟩)]] (X.alloc (.cells #[.map (some mb)] 106)) fun e w' => (∃ v V, e = .returned v ∧ InSl w' w'.heap.size v V ∧ Inc V ∧ (∀ y, y ∈ V ↔ p y = true) ∧ V.length ≤ n) ∧ Below (X.alloc (.cells #[.map (some mb)] 106)).heap.size (X.alloc (.cells #[.map (some mb)] 106)) w' := by
  obtain ⟨hb, hnew, D, hown, hhas, hsz⟩ := h
  have hbl := hown.lt
  have hseq : SeqGives Fence.wide 2 Tryz.prog 88 #[.pointer (some ⟨X.heap.size, 0, none⟩)] encZ (fun ss => ss.Perm (intKeys D)) (Maps.size D) (X.alloc (.cells #[.map (some mb)] 106)) :=
    AnyZI.keys_gives (ρ := Tryz.keysA_ren) { Tryz.keysA with } Fence.wide _ trivial rfl (by omega) X.heap.size mb n D _ (by simp) (by simp) (by
      obtain ⟨es, clock, hb, Ft, hs, hD⟩ := hown
      exact ⟨es, clock, (Below.heap_alloc _ _ mb hbl).trans hb, Ft, hs, hD⟩)
  have cS := AnyZI.sorted_in Tryz.sortedA Fence.wide 5 trivial trivial trivial trivial rfl (by omega) (sorts_a _) (enters_of Tryz.func87 (by kernel_rfl) rfl) 88 #[.pointer (some ⟨X.heap.size, 0, none⟩)] trivial (enters_of Tryz.func88 (by kernel_rfl) rfl) _ _ (by unfold maxLen; omega) (by omega) _ hseq
  have hkm := keys_mem hown keyI Tryz.underlying3
  have cT := (callsIn_wide (n := 5)).1 cS
  have hlen : (intKeys D).length = size D := by
    obtain ⟨es', rfl, _⟩ := hown.keysOf
    exact List.length_map _
  refine cT.mono ?_
  rintro e w' ⟨v, ss, rfl, hS, hrow, _, hbw⟩
  have hl : ss.length = (ss.mergeSort leI).length := (List.length_mergeSort ss).symm
  have ho : OwN (X.alloc (.cells #[.map (some mb)] 106)) v (ss.mergeSort leI) w' := ⟨hbw, by
    have h := hrow
    rw [hl] at h
    exact h⟩
  exact ⟨⟨v, ss.mergeSort leI, rfl, ho.sl, inc_sorted hS hkm.1, fun y => by rw [mem_sorted hS, hkm.2, hhas], by rw [← hl, hS.length_eq, hlen]; exact hsz⟩, hbw⟩
theorem VP.last {b : List (List Int)} {p : Int → Bool} {n : Nat} (h : VP (b.take n) p) (hn : b.length = n) : VP b p := by
  rw [show b.take n = b from List.take_of_length_le (by omega)] at h
  exact h
set_option maxRecDepth 100000 in
set_option maxHeartbeats 4000000 in
theorem valuesOf_any (u : Value) (b : List (List Int)) (w : World) (hu : VsSl w w.heap.size u b) (hbl : b.length ≤ 1000) (hll : ∀ l ∈ b, l.length ≤ 1000 ∧ ∀ z ∈ l, 1 ≤ z ∧ z ≤ 65535) :
    Calls Tryz.prog 59 #[u] w fun e w' => (∃ v V, e = .returned v ∧ InSl w' w'.heap.size v V ∧ Inc V ∧ (∀ y, y ∈ V ↔ ∃ l ∈ b, y ∈ l) ∧ V.length ≤ 1000000) ∧ Below w.heap.size w w' := by
  have HU := Lib.hid hu
  obtain ⟨A, c, rfl⟩ := hu.form
  obtain ⟨n, hn⟩ : ∃ n, b.length = n := ⟨_, rfl⟩
  have HN := Lib.hid hn
  have HL := Lib.hid hll
  rw [hn] at HU hbl ⊢
  have HM0 := Lib.hid (show BS w w.heap.size 0 (fun _ => false) (w.alloc (.map #[] 0)) from BS.made w w (Below.refl _ _))
  clear hu hn hll
  have hmm := @run_makeMap Tryz.prog
  go_enter Tryz.func59, Tryz.ntmps59
  go_wp2_with fail
  go_loopw [11] (fun iv wr => ∃ (i m : Nat) (p : Int → Bool), iv = .int .i64 (i : Int) ∧ i ≤ n ∧ BS w w.heap.size m p wr ∧ m ≤ 1000 * i ∧ VP (b.take i) p) (fun iv _ => n - (intOf iv).toNat)
  case atStart => exact ⟨0, 0, _, rfl, by omega, HM0.out, by omega, VP.start⟩
  case round =>
    obtain ⟨i, m, p, rfl, hin, hM, hm, hp⟩ := hrel
    have HM := Lib.hid hM
    have HP := Lib.hid hp
    clear hM hp
    by_cases hlt : i < n
    · obtain ⟨ad, ul, l, rfl, hbd, hl, hcl0, hin2⟩ := HU.out.at_ hlt
      have hcl := (HM.out.bel.cell (p := ad.add i) (by rw [add_block]; exact hbd)).trans hcl0
      obtain ⟨Al, cl, rfl, _⟩ := hin2.form
      have HAl := Lib.hid (show InA w w.heap.size Al l from by obtain ⟨_, _, e, _, _, h⟩ := hin2; cases e; exact h)
      obtain ⟨hl1, hl2⟩ := HL.out l (List.mem_of_getElem? hl)
      have HLw := Lib.hid hl2
      have HLi := Lib.hid hl
      obtain ⟨nl, hnl⟩ : ∃ nl, l.length = nl := ⟨_, rfl⟩
      have HNl := Lib.hid hnl
      rw [hnl] at hcl hl1
      clear hcl0 hbd hin2 hl2 hl hnl
      go_wp2_with fail
      go_loopw [17] (fun jv wq => ∃ (j m : Nat) (p : Int → Bool), jv = .int .i64 (j : Int) ∧ j ≤ nl ∧ BS w w.heap.size m p wq ∧ m ≤ 1000 * i + j ∧ VP (b.take i ++ [l.take j]) p) (fun jv _ => nl - (intOf jv).toNat)
      case atStart => exact ⟨0, m, p, rfl, by omega, HM.out, by omega, HP.out.open_ l⟩
      case round =>
        obtain ⟨j, m, p, rfl, hjn, hM, hm, hp⟩ := hrel
        have HMj := Lib.hid hM
        have HPj := Lib.hid hp
        clear hM hp hcl
        by_cases hjt : j < nl
        · obtain ⟨z, adl, hz, rfl, hbz, hcz0⟩ := HAl.out.at_ HNl.out hjt
          have hcz := (HMj.out.bel.cell (p := adl.add j) (by rw [add_block]; exact hbz)).trans hcz0
          have HZ := Lib.hid (wf_nm (HLw.out z (List.mem_of_getElem? hz)))
          have HZj := Lib.hid hz
          have HMx := Lib.hid (show m < maxLen from by unfold maxLen; omega)
          clear hcz0 hbz hz
          go_wp2_with (at_mapUpdate; refine wpList_put_bs rfl _ _ _ rfl HMj.out HMx.out rfl z rfl HZ.out rfl ?_; intro w4 hm4; have HM4 := Lib.hid hm4; clear hm4)
          go_roundw
          case rel => exact ⟨j + 1, m + 1, _, by go_num, by omega, HM4.out, by omega, HPj.out.grow HZj.out⟩
          case measure => simp [intOf]; omega
        · obtain rfl : nl = j := by omega
          go_wp2_with fail
          go_roundw
          case rel => exact ⟨i + 1, m, p, by go_num, by omega, HMj.out, by omega, HPj.out.close HLi.out HNl.out⟩
          case measure => simp [intOf]; omega
    · obtain rfl : n = i := by omega
      have HKc := Lib.hid (keys_call (some w.heap.size) wr)
      have HSc := Lib.hid (sorted_call HM.out (by omega))
      have HBk := Lib.hid (HM.out.bel.trans ((below_new (w := wr) (.cells #[.map (some w.heap.size)] 106)).mono HM.out.bel.size))
      go_wp2_with fail
      (with_reducible refine HKc.out.mono ?_)
      rintro e w5 ⟨rfl, rfl⟩
      go_wp2_with fail
      (with_reducible refine HSc.out.mono ?_)
      rintro e w6 ⟨⟨v, V, rfl, hv, hV, hy, hvl⟩, hb⟩
      obtain ⟨Av, cv, rfl, _⟩ := hv.form
      have HV := Lib.hid (And.intro hv (And.intro hV (And.intro hy hvl)))
      clear hv hV hy hvl
      go_wp2_with fail
      go_ret
      exact ⟨⟨_, V, rfl, HV.out.1, HV.out.2.1, fun y => by rw [HV.out.2.2.1 y]; exact (HP.out.last HN.out) y, by have := HV.out.2.2.2; omega⟩, HBk.out.trans (hb.mono HBk.out.size)⟩
end Go.Proofs.YtplpogonkfnafaaGreat
