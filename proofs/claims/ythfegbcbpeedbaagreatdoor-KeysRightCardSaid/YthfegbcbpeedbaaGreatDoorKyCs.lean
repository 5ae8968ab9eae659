
/- The keys of the map, sorted. -/
import Derived.Test.YthfegbcbpeedbaaGreatDoorKyCf
import Derived.Test.YthfegbcbpeedbaaGreatDoorKyLp
import Derived.Shelf.SlIterI.Nil
import Derived.Shelf.SortM.Plain
import Derived.Shelf.SortM.SortNone
namespace Go.Proofs.YthfegbcbpeedbaaGreatDoor
open Go.RowKit Go.Nm Go.Ky Go.Maps Go.Sort Go.Shelf

theorem keys_mem {H : Type} {P : Program} {k : TypeId} {R : Value → Option (DataW H × List MemPlace)} {w : World} {b n : Nat} {D : DataW H} (hown : w.ownsMap P k R b n D) (K : Keyed P k) (hk : P.underlying k = some (.int .i64)) : (intKeys D).Nodup ∧ ∀ x, x ∈ intKeys D ↔ has D (.int .i64 x) = true := by
  obtain ⟨es, hD, hpw, _⟩ := hown.entries K
  obtain ⟨es', hD', hko⟩ := hown.keysOf
  obtain rfl : es = es' := by rw [hD] at hD'; simpa using hD'
  subst hD
  have hk' : ∀ p ∈ es, ∃ x, p.1 = .int .i64 x := fun p hp => by obtain ⟨v, hv⟩ := hko p hp; obtain ⟨x, _, hx, _⟩ := Maps.keyOf_i64 hk hv; exact ⟨x, hx⟩
  refine ⟨?_, fun x => ?_⟩
  · show (es.map fun p => Go.intOf p.1).Nodup
    refine List.pairwise_map.2 (hpw.imp_of_mem fun {p q} hp' hq' hne e => hne ?_)
    obtain ⟨a, ha⟩ := hk' p hp'
    obtain ⟨b, hb⟩ := hk' q hq'
    rw [ha, hb] at e ⊢
    exact congrArg _ e
  · rw [has_eq, List.any_eq_true]
    show x ∈ es.map (fun p => Go.intOf p.1) ↔ _
    rw [List.mem_map]
    constructor
    · rintro ⟨p, hp', rfl⟩
      obtain ⟨a, ha⟩ := hk' p hp'
      exact ⟨p, hp', by rw [ha]; simp [Lit.sameKey, Go.intOf]⟩
    · rintro ⟨p, hp', hs⟩
      obtain ⟨a, ha⟩ := hk' p hp'
      rw [ha] at hs
      exact ⟨p, hp', by rw [ha]; simpa [Lit.sameKey, Go.intOf] using hs⟩
/-- sorted, without twins: strictly increasing -/
theorem inc_sorted {ss L : List Int} (hp : ss.Perm L) (hn : L.Nodup) : Inc (ss.mergeSort leI) := by
  have tr : ∀ a b c : Int, leI a b = true → leI b c = true → leI a c = true := fun a b c h1 h2 => by simp only [leI, decide_eq_true_eq] at *; exact Int.le_trans h1 h2
  have to : ∀ a b : Int, (leI a b || leI b a) = true := fun a b => by simp only [leI, Bool.or_eq_true, decide_eq_true_eq]; exact Int.le_total a b
  have h1 := List.pairwise_mergeSort tr to ss
  have h2 : (ss.mergeSort leI).Nodup := ((List.mergeSort_perm ss leI).trans hp).nodup_iff.2 hn
  exact (h1.and h2).imp fun {a b} h => by
    have h3 := h.1
    simp only [leI, decide_eq_true_eq] at h3
    have h4 : a ≠ b := h.2
    omega
theorem mem_sorted {ss L : List Int} (hp : ss.Perm L) (x : Int) : x ∈ ss.mergeSort leI ↔ x ∈ L := ((List.mergeSort_perm ss leI).trans hp).mem_iff
/-- slices.Sort's two contracts, at the fence that asks nothing -/
theorem sorts_a (m : Nat) : AnyZI.SortsIn Tryz.prog Tryz.sortedA_ren Fence.wide m :=
  ⟨fun blk off cap ss W hH hblk hsz => callsIn_wide.2 (AnyM.slices_Sort_int Tryz.sortA blk off cap ss W hH hblk hsz),
   fun p cap W => callsIn_wide.2 (AnyM.slices_Sort_int_none Tryz.sortA p cap W)⟩
theorem keys_call (mb : Option Nat) (W : World) : Calls Tryz.prog 34 #[.map mb] W fun e w' => e = .returned (.func (.func 69) #[] #[.pointer (some ⟨W.heap.size, 0, none⟩)]) ∧ w' = W.alloc (.cells #[.map mb] 67) :=
  (callsIn_wide (n := 5)).1 (AnyZI.keys_in Tryz.keysA Fence.wide 5 trivial rfl mb W)
set_option maxHeartbeats 1000000 in
theorem sorted_call {W0 : World} {mb n : Nat} {G : Int → List (List Int)} {ks : Int → Prop} {V : Int → Value} {X : World} (h : GM W0 mb n G ks V X) (hn : n ≤ 10000000) :
    Calls Tryz.prog 33 #[.func (.func 69) #[] #[.pointer (some ⟨X.heap.size, 0, none⟩)]] (X.alloc (.cells #[.map (some mb)] 67)) fun e w' => (∃ v L, e = .returned v ∧ InSl w' w'.heap.size v L ∧ Inc L ∧ ∀ y, y ∈ L ↔ ks y) ∧ Below (X.alloc (.cells #[.map (some mb)] 67)).heap.size (X.alloc (.cells #[.map (some mb)] 67)) w' := by
  obtain ⟨hb, hnew, ⟨D, hown, _, hhas⟩, _⟩ := h
  have hbl := hown.lt
  have hseq : SeqGives Fence.wide 2 Tryz.prog 69 #[.pointer (some ⟨X.heap.size, 0, none⟩)] encZ (fun ss => ss.Perm (intKeys D)) (Maps.size D) (X.alloc (.cells #[.map (some mb)] 67)) :=
    AnyZI.keys_gives (ρ := Tryz.keysA_ren) { Tryz.keysA with } Fence.wide _ trivial rfl (by omega) X.heap.size mb n D _ (by simp) (by simp) (by
      obtain ⟨es, clock, hb, Ft, hs, hD⟩ := hown
      exact ⟨es, clock, (Below.heap_alloc _ _ mb hbl).trans hb, Ft, hs, hD⟩)
  have hsz : Maps.size D ≤ n := by
    obtain ⟨es, clock, hb, Ft, hs, rfl⟩ := hown
    show ((es.toList.map _).foldr DataW.insert []).length ≤ n
    rw [length_sorted, List.length_map]
    simpa using hs
  have cS := AnyZI.sorted_in Tryz.sortedA Fence.wide 5 trivial trivial trivial trivial rfl (by omega) (sorts_a _) (enters_of Tryz.func68 (by kernel_rfl) rfl) 69 #[.pointer (some ⟨X.heap.size, 0, none⟩)] trivial (enters_of Tryz.func69 (by kernel_rfl) rfl) _ _ (by unfold maxLen; omega) (by omega) _ hseq
  have hkm := keys_mem hown keyI Tryz.underlying3
  have cT := (callsIn_wide (n := 5)).1 cS
  refine cT.mono ?_
  rintro e w' ⟨v, ss, rfl, hS, hrow, _, hbw⟩
  have hl : ss.length = (ss.mergeSort leI).length := (List.length_mergeSort ss).symm
  have ho : OwN (X.alloc (.cells #[.map (some mb)] 67)) v (ss.mergeSort leI) w' := ⟨hbw, by
    have h := hrow
    rw [hl] at h
    exact h⟩
  exact ⟨⟨v, ss.mergeSort leI, rfl, ho.sl, inc_sorted hS hkm.1, fun y => by rw [mem_sorted hS, hkm.2, hhas]⟩, hbw⟩
end Go.Proofs.YthfegbcbpeedbaaGreatDoor
