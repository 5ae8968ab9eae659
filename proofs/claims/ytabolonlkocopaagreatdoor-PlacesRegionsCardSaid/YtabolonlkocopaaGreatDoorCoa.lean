
/- Coarse. -/
import Derived.Test.YtabolonlkocopaaGreatDoorLvs
import Derived.Test.YtabolonlkocopaaGreatDoorMns
namespace Go.Proofs.YtabolonlkocopaaGreatDoor
open Go.RowKit Go.Plc Go.Shelf
attribute [local go_sem] Oper.semAt_some

def coarseC (l : List Sq) (L : Int) : List Sq := (atLevelS l L).foldl addS []
def coarseOut (l : List Sq) (L : Int) : List Sq × Int :=
  if regB l then (if 0 ≤ L ∧ L ≤ 10 then (if 4096 < (coarseC l L).length then ([], 2) else (regionS (coarseC l L), 0)) else ([], 1)) else ([], 11)
theorem add_len_ge (C : List Sq) (s : Sq) : C.length ≤ (addS C s).length := by unfold addS; split <;> simp
theorem fold_add_ge (M : List Sq) : ∀ C : List Sq, C.length ≤ (M.foldl addS C).length := by
  induction M with
  | nil => intro C; exact Nat.le_refl _
  | cons s M ih => intro C; exact Nat.le_trans (add_len_ge C s) (ih _)
theorem coarse_big {l : List Sq} {L : Int} {pre : List Sq} (h : pre <+: atLevelS l L) (hb : 4096 < (pre.foldl addS []).length) : 4096 < (coarseC l L).length := by
  obtain ⟨t, ht⟩ := h
  unfold coarseC
  rw [← ht, List.foldl_append]
  exact Nat.lt_of_lt_of_le hb (fold_add_ge t _)

structure CoI (w : World) (gm gl : Nat) (b : Nat → Nat) (A : Option Addr) (n c : Nat) (L : Int) (C : List Sq) (X : World) : Prop where
  cov : Cov X b C
  box : X.heap[gm]? = some (.cells (covA b) 54)
  bl : X.heap[gl]? = some (.cells #[.slice A n c] 22)
  bL : X.heap[gl + 1]? = some (.cells #[.int .i64 L] 3)
  bel : Below w.heap.size w X
structure CoB (w : World) (gm gl : Nat) (b : Nat → Nat) : Prop where
  b : ∀ i, i < 11 → w.heap.size ≤ b i ∧ b i < gm
  g : gm < gl
theorem CoI.grown {w : World} {gm gl : Nat} {b : Nat → Nat} {A : Option Addr} {n c : Nat} {L : Int} {C : List Sq} {X Y : World} {row : Option Nat} (h : CoI w gm gl b A n c L C X) (hb : CoB w gm gl b) (hg : X.grownBy Y row) (hr : ∀ r, row = some r → gl + 2 ≤ r) : CoI w gm gl b A n c L C Y := by
  have h1 := hb.b 0 (by omega)
  have h2 := hb.g
  have hne : ∀ k, k < gl + 2 → some k ≠ row := fun k hk e => by have := hr k e.symm; omega
  exact ⟨h.cov.grownB (B := gm) (fun i hi => (hb.b i hi).2) hg (fun r e => by have := hr r e; omega), (hg.block _ (Array.getElem?_eq_some_iff.1 h.box).1 (hne _ (by omega))).trans h.box,
    (hg.block _ (Array.getElem?_eq_some_iff.1 h.bl).1 (hne _ (by omega))).trans h.bl, (hg.block _ (Array.getElem?_eq_some_iff.1 h.bL).1 (hne _ (by omega))).trans h.bL, h.bel.grown hg h.bel.size (fun r e => by have := hr r e; omega)⟩
theorem CoI.step {w : World} {gm gl : Nat} {b : Nat → Nat} {A : Option Addr} {n c : Nat} {L : Int} {C C' : List Sq} {X Y : World} (h : CoI w gm gl b A n c L C X) (hb : CoB w gm gl b) (hc : Cov Y b C') (h2 : CBut b X Y) : CoI w gm gl b A n c L C' Y := by
  have h3 := hb.g
  exact ⟨hc, h2.heap h.box (fun i hi e => by have := hb.b i hi; omega), h2.heap h.bl (fun i hi e => by have := hb.b i hi; omega), h2.heap h.bL (fun i hi e => by have := hb.b i hi; omega), h.bel.trans (h2.below h.bel.size (fun i hi => (hb.b i hi).1))⟩
theorem CoI.below {w : World} {gm gl : Nat} {b : Nat → Nat} {A : Option Addr} {n c : Nat} {L : Int} {C : List Sq} {X Y : World} (h : CoI w gm gl b A n c L C X) (hb : CoB w gm gl b) (h2 : Below X.heap.size X Y) : CoI w gm gl b A n c L C Y :=
  h.step hb (h.cov.below h2) (CBut.of_below h2)
theorem SqA.putD {w : World} {A : Option Addr} {R : List Sq} {D : Nat} {o o' : Obj} (h : SqA w w.heap.size A R) (ho : w.heap[D]? = some o) (hno : ∀ cs t fr, o ≠ .cells cs t fr) : SqA (w.putObj D o') (w.putObj D o').heap.size A R := by
  intro i s hs
  obtain ⟨ad, ha, hb, h1, h2, h3⟩ := h i s hs
  have key : ∀ p v, w.cell? p = some v → (w.putObj D o').cell? p = some v := fun p v hp => by
    have hne : p.block ≠ D := fun e => by
      unfold World.cell? at hp
      rw [e, ho] at hp
      cases o <;> simp at hp
      exact hno _ _ _ rfl
    exact (World.cell?_of_block (World.putObj_heap_other hne)).trans hp
  exact ⟨ad, ha, by simpa using hb, key _ _ h1, key _ _ h2, key _ _ h3⟩

set_option maxRecDepth 100000 in
set_option maxHeartbeats 4000000 in
theorem Coarse_ok (v : Value) (l : List Sq) (L : Int) (w : World) (hv : SqSl w w.heap.size v l) (hn : l.length ≤ 1000000) (hr : regB l = true) (h0 : 0 ≤ L) (h1 : L ≤ 10) :
    Calls Tryz.prog 25 #[v, .int .i64 L] w (OutSq (coarseOut l L) w) := by
  have HV := Lib.hid (ValidRegion_any v l w hv hn)
  rw [hr] at HV
  have HG := Lib.hid (reg_ok hr)
  have HO := Lib.hid (show coarseOut l L = if 4096 < (coarseC l L).length then ([], 2) else (regionS (coarseC l L), 0) by unfold coarseOut; rw [hr, if_pos rfl, if_pos ⟨h0, h1⟩])
  obtain ⟨A, c, rfl, hA⟩ := hv
  have HA := Lib.hid hA
  have hcA : ∀ b : Nat → Nat, covA b = #[.map (some (b 0)), .map (some (b 1)), .map (some (b 2)), .map (some (b 3)), .map (some (b 4)), .map (some (b 5)), .map (some (b 6)), .map (some (b 7)), .map (some (b 8)), .map (some (b 9)), .map (some (b 10))] := fun _ => rfl
  have HcA := Lib.hid hcA
  clear hcA hA hr
  generalize hm : l.length = m at *
  have HM := Lib.hid hm
  clear hm
  obtain ⟨nn, hnn⟩ : ∃ nn : Nat, 20 ≤ nn := ⟨20, by omega⟩
  refine (callsIn_wide (n := nn)).1 ?_
  refine callsIn_of_wp_marks Tryz.func25 rfl trivial ?_ rfl
  simp only [Tryz.ntmps25, List.size_toArray, List.length_cons, List.length_nil, Nat.reduceAdd, Nat.reduceSub, Array.replicate_succ, Array.replicate_zero, List.push_toArray, List.append_toArray, List.nil_append, List.cons_append]
  gi_wp2_with fail
  refine ⟨trivial, fun h => (by first | omega | cases h), (callsIn_wide.2 HV.out).mono ?_⟩
  rintro e w1 ⟨rfl, hb1⟩
  have HB1 := Lib.hid hb1
  clear hb1
  gi_wp2_with fail
  refine ⟨trivial, fun h => (by first | omega | cases h), (callsIn_wide.2 (coverOf_any (.slice none 0 0) [] w1 ⟨none, 0, rfl, fun i s hs => by simp at hs⟩ (fun s hs => by cases hs) (by simp))).mono ?_⟩
  rintro e w2 ⟨b, rfl, hbge, hcov, hb2⟩
  have H2 := Lib.hid (show (∀ i, i < 11 → w.heap.size ≤ b i ∧ b i < w2.heap.size) ∧ Cov w2 b [] ∧ Below w.heap.size w w2 from ⟨fun i hi => ⟨Nat.le_trans HB1.out.size (hbge i hi), hcov.lt i hi⟩, hcov, HB1.out.trans (hb2.mono HB1.out.size)⟩)
  clear hbge hcov hb2
  unfold covA
  gi_wp2_with fail
  rw [← HcA.out b]
  refine ⟨trivial, fun h => (by first | omega | cases h), (callsIn_wide.2 (atLevel_any (.slice A m c) L _ ⟨_, _, _, rfl⟩)).mono ?_⟩
  rintro e w3 ⟨rfl, rfl⟩
  gi_wp2_with fail
  have HB := Lib.hid (show CoB w w2.heap.size (w2.heap.size + 1) b from ⟨H2.out.1, by omega⟩)
  have HY := Lib.hid (show ∀ Y, Y = ((w2.alloc (.cells (covA b) 54)).alloc (.cells #[.slice A m c] 22)).alloc (.cells #[.int .i64 L] 3) → CoI w w2.heap.size (w2.heap.size + 1) b A m c L [] Y ∧ Y.heap.size = w2.heap.size + 3 from by
    rintro Y rfl
    refine ⟨⟨((H2.out.2.1.below (below_new _)).below (below_new _)).below (below_new _), (Below.heap_alloc _ _ _ (by simp; omega)).trans ((Below.heap_alloc _ _ _ (by simp)).trans (World.alloc_heap_new w2 _)), ?_, ?_, ?_⟩, by simp⟩
    · refine (Below.heap_alloc _ _ _ (by simp)).trans ?_
      have := World.alloc_heap_new (w2.alloc (.cells (covA b) 54)) (.cells #[.slice A m c] 22)
      rwa [World.size_alloc] at this
    · have := World.alloc_heap_new ((w2.alloc (.cells (covA b) 54)).alloc (.cells #[.slice A m c] 22)) (.cells #[.int .i64 L] 3)
      rwa [World.size_alloc, World.size_alloc] at this
    · have hz := H2.out.2.2.size
      exact ((H2.out.2.2.trans ((below_new _).mono hz)).trans ((below_new _).mono (by simp; omega))).trans ((below_new _).mono (by simp; omega)))
  generalize hY0 : ((w2.alloc (.cells (covA b) 54)).alloc (.cells #[.slice A m c] 22)).alloc (.cells #[.int .i64 L] 3) = Y0
  obtain ⟨hI0, hz0⟩ := HY.out Y0 hY0.symm
  clear HY hY0 H2 HB1
  generalize w2.heap.size = gm at *
  refine wp_rangeO (by omega) (gf := 97) (lb := #[.pointer (some ⟨gm + 1, 0, none⟩), .pointer (some ⟨gm + 2, 0, none⟩)]) rfl (enters_of Tryz.func97 (by kernel_rfl) rfl) (encs := fun s : Sq => #[sqv s]) (fun _ => rfl)
    (fun pre ow Y => CoI w gm (gm + 1) b A m c L (pre.foldl addS []) Y ∧ (pre.foldl addS []).length ≤ 4096 ∧ ow = none)
    (fun cd pre Y => cd = .exit 0 ∧ CoI w gm (gm + 1) b A m c L (pre.foldl addS []) Y ∧ 4096 < (pre.foldl addS []).length ∧ (pre.foldl addS []).length ≤ 5000)
    (fun ow pre P Q row h hg hr => ⟨h.1.grown HB.out hg (fun r e => by have := (hr r e).1; omega), h.2⟩)
    (fun cd pre P Q row h hg hr => ⟨h.1, h.2.1.grown HB.out hg (fun r e => by have := (hr r e).1; omega), h.2.2⟩)
    (fun pre ow P h k e => by rw [h.2.2] at e; cases e) none ⟨hI0, by simp, rfl⟩
    (atLevel_iter Y0.heap.size (nn - 1) (by omega) l L A c (gm + 1) (gm + 2) HG.out.2 h0 h1 (by have := HM.out; omega) _ (fun pre ow P h => ⟨by rw [HM.out]; exact h.1.bl, h.1.bL, (HA.out.below h.1.bel).mono h.1.bel.size, h.2.2⟩))
    (fun x a' P => ∃ Bx, Y0.heap.size ≤ Bx ∧ P.heap[Bx]? = some (.cells #[.int .i64 x.l, .int .i64 x.x, .int .i64 x.y] 31) ∧ a'.tmps.size = 32 ∧ a'.tmps.getD 6 undef = .pointer (some ⟨gm, 0, none⟩) ∧ a'.tmps.getD 7 undef = .pointer (some ⟨Bx, 0, none⟩) ∧ a'.defers = [])
    (fun x a' _ P Q row h hg hr => by
      obtain ⟨Bx, k0, k1, k2⟩ := h
      refine ⟨Bx, k0, (hg.block _ (Array.getElem?_eq_some_iff.1 k1).1 (fun e => ?_)).trans k1, k2⟩
      obtain ⟨_, o, ho, hc⟩ := hr Bx e.symm
      rw [k1] at ho; cases ho; cases hc)
    ?assign ?body ?done ?stop
  case assign =>
    intro lr pre x ow P K' hI' hK'
    unfold sqv
    gi_wp2_with fail
    exact hK' _ _ (.inr ⟨_, rfl⟩) ⟨P.heap.size, by have := (Array.getElem?_eq_some_iff.1 hI'.1.bL).1; omega, World.alloc_heap_new P _, rfl, rfl, rfl, rfl⟩
  case body =>
    rintro lr pre x ow ⟨t, ds⟩ P hl ⟨r, hr⟩ ⟨hI, hlen, rfl⟩ ⟨Bx, hBx, hx, hsz, h6, h7, hd⟩ ⟨hxo, hxl, hxp⟩
    obtain ⟨f', hf'⟩ := arr32 hsz
    subst hf'
    have h6' : f' 6 = .pointer (some ⟨gm, 0, none⟩) := h6
    have h7' : f' 7 = .pointer (some ⟨Bx, 0, none⟩) := h7
    have hd' : ds = [] := hd
    subst hd'
    rw [h6', h7']
    clear h6 h7 hd h6' h7' hsz
    have HP := Lib.hid hI
    have HFo := Lib.hid (show (pre ++ [x]).foldl addS [] = addS (pre.foldl addS []) x by rw [List.foldl_append]; rfl)
    obtain ⟨q0, q1, q2, q3, q4, q5, q6, q7, q8, q9, q10⟩ := cov_cells hI.box
    obtain ⟨s0, s1, s2⟩ := sq_cells hx
    have HAd := Lib.hid (add_cov b x (pre.foldl addS []) P hI.cov hxo (by unfold maxLen; omega))
    have hgY : gm + 3 ≤ Y0.heap.size := by omega
    clear hI hx hxo hxl hxp
    unfold covA sqv at HAd
    gi_wp2_with fail
    refine ⟨trivial, fun h => (by first | omega | cases h), (CallsIn.inRound _ (callsIn_wide.2 HAd.out)).mono ?_⟩
    rintro e P2 ⟨rfl, hc2, hb2⟩
    have HP2 := Lib.hid (show CoI w gm (gm + 1) b A m c L ((pre ++ [x]).foldl addS []) P2 ∧ KA Y0.heap.size none P P2 ∧ ((pre ++ [x]).foldl addS []).length ≤ 4097 from
      ⟨HP.out.step HB.out (HFo.out ▸ hc2) hb2, (hb2.ka (fun i hi => (HB.out.b i hi).2)).mono (by omega), by rw [HFo.out]; have := addS_len (pre.foldl addS []) x; omega⟩)
    clear hc2 hb2 HAd HP HFo
    obtain ⟨q0, q1, q2, q3, q4, q5, q6, q7, q8, q9, q10⟩ := cov_cells HP2.out.1.box
    have HSz := Lib.hid (size_any b _ P2 HP2.out.1.cov (by have := HP2.out.2.2; omega))
    unfold covA at HSz
    generalize hC : (pre ++ [x]).foldl addS [] = C at *
    have HC := Lib.hid hC
    clear hC
    gi_wp2_with fail
    refine ⟨trivial, fun h => (by first | omega | cases h), (CallsIn.inRound _ (callsIn_wide.2 HSz.out)).mono ?_⟩
    rintro e P3 ⟨rfl, hb3⟩
    have HP3 := Lib.hid (show CoI w gm (gm + 1) b A m c L C P3 ∧ KA Y0.heap.size none P P3 ∧ C.length ≤ 4097 from ⟨HP2.out.1.below HB.out hb3, HP2.out.2.1.trans (KA.of_below hb3), HP2.out.2.2⟩)
    clear hb3 HP2 HSz q0 q1 q2 q3 q4 q5 q6 q7 q8 q9 q10
    by_cases hbig : (4096 : Int) < (C.length : Int)
    · gi_wp2_with fail
      have hC := HC.out
      subst hC
      exact ⟨HP3.out.2.1, rfl, HP3.out.1, by omega, by have := HP3.out.2.2; omega⟩
    · gi_wp2_with fail
      have hC := HC.out
      subst hC
      exact ⟨HP3.out.2.1, none, ⟨HP3.out.1, by omega, rfl⟩, .inl rfl⟩
  case done =>
    rintro D xs ow P hD rfl ⟨hI, hlen, rfl⟩ hKd
    have HR := Lib.hid (region_any b _ P hI.cov (by omega))
    have HO2 := Lib.hid (show coarseOut l L = (regionS ((atLevelS l L).foldl addS []), 0) by rw [HO.out, if_neg (by unfold coarseC; omega)]; rfl)
    obtain ⟨q0, q1, q2, q3, q4, q5, q6, q7, q8, q9, q10⟩ := cov_cells hI.box
    have HI := Lib.hid (And.intro hI hKd)
    unfold covA at HR
    clear hI hKd
    generalize (atLevelS l L).foldl addS [] = C at *
    gi_wp2_with fail
    refine ⟨trivial, fun h => (by first | omega | cases h), (callsIn_wide.2 HR.out).mono ?_⟩
    rintro e P2 ⟨hb2, (⟨hl, rfl⟩ | ⟨hl, A', c', rfl, hA'⟩)⟩
    · omega
    · have HP2 := Lib.hid (show SqA P2 P2.heap.size A' (regionS C) ∧ Below w.heap.size w P2 ∧ P2.heap[D]? = some (.deferred (some [])) ∧ w.heap.size ≤ D from
        ⟨hA', HI.out.1.bel.trans (hb2.mono HI.out.1.bel.size), (hb2.block _ (Array.getElem?_eq_some_iff.1 HI.out.2).1).trans HI.out.2, by have := HB.out.b 0 (by omega); omega⟩)
      clear hb2 hA'
      gi_wp2_with fail
      refine ⟨by simp, .inl ⟨_, _, rfl, run_takeDeferred HP2.out.2.2.1, ?_⟩⟩
      refine ⟨.tuple #[.slice A' (regionS C).length c', .int .i64 0], by simp [results, Tryz.results25, go_sem], OutSq.mk HO2.out (HP2.out.1.putD HP2.out.2.2.1 (fun _ _ _ e => by cases e)) ?_⟩
      exact HP2.out.2.1.grown (grownBy_putObj' P2 D (.deferred none)) HP2.out.2.1.size (fun r e => by cases e; exact HP2.out.2.2.2)
  case stop =>
    rintro D cd pre P hD hSp ⟨rfl, hI, hbig, hlen⟩ hKd
    have HR := Lib.hid (region_any b _ P hI.cov (by omega))
    have HO2 := Lib.hid (show coarseOut l L = ([], 2) by rw [HO.out, if_pos (coarse_big hSp hbig)])
    obtain ⟨q0, q1, q2, q3, q4, q5, q6, q7, q8, q9, q10⟩ := cov_cells hI.box
    have HI := Lib.hid (And.intro hI hKd)
    unfold covA at HR
    clear hI hKd hSp
    generalize pre.foldl addS [] = C at *
    gi_wp2_with fail
    refine ⟨trivial, fun h => (by first | omega | cases h), (callsIn_wide.2 HR.out).mono ?_⟩
    rintro e P2 ⟨hb2, (⟨hl, rfl⟩ | ⟨hl, A', c', rfl, hA'⟩)⟩
    · have HP2 := Lib.hid (show Below w.heap.size w P2 ∧ P2.heap[D]? = some (.deferred (some [])) ∧ w.heap.size ≤ D from
        ⟨HI.out.1.bel.trans (hb2.mono HI.out.1.bel.size), (hb2.block _ (Array.getElem?_eq_some_iff.1 HI.out.2).1).trans HI.out.2, by have := HB.out.b 0 (by omega); omega⟩)
      clear hb2
      gi_wp2_with fail
      refine ⟨by simp, .inl ⟨_, _, rfl, run_takeDeferred HP2.out.2.1, ?_⟩⟩
      refine ⟨.tuple #[.slice none 0 0, .int .i64 2], by simp [results, Tryz.results25, go_sem], OutSq.nil HO2.out ?_⟩
      exact HP2.out.1.grown (grownBy_putObj' P2 D (.deferred none)) HP2.out.1.size (fun r e => by cases e; exact HP2.out.2.2)
    · omega

set_option maxHeartbeats 2000000 in
theorem Coarse_any (v : Value) (l : List Sq) (L : Int) (w : World) (hv : SqSl w w.heap.size v l) (hn : l.length ≤ 1000000) :
    Calls Tryz.prog 25 #[v, .int .i64 L] w (OutSq (coarseOut l L) w) := by
  cases hr : regB l
  · have HV := Lib.hid (ValidRegion_any v l w hv hn)
    rw [hr] at HV
    have HO := Lib.hid (show coarseOut l L = ([], 11) by unfold coarseOut; rw [hr]; rfl)
    clear hr hv
    go_enter Tryz.func25, Tryz.ntmps25
    go_wp2_with fail
    refine HV.out.mono ?_
    rintro e w1 ⟨rfl, hb1⟩
    have HB1 := Lib.hid hb1
    clear hb1
    go_wp2_with fail
    go_ret2
    exact OutSq.nil HO.out HB1.out
  · by_cases hL : 0 ≤ L ∧ L ≤ 10
    · exact Coarse_ok v l L w hv hn hr hL.1 hL.2
    · have HV := Lib.hid (ValidRegion_any v l w hv hn)
      rw [hr] at HV
      have HO := Lib.hid (show coarseOut l L = ([], 1) by unfold coarseOut; rw [hr, if_pos rfl, if_neg hL])
      clear hr hv
      cases h1 : decide (L < 0) <;> cases h2 : decide (10 < L)
      · simp at h1 h2; omega
      all_goals
        clear hL
        go_enter Tryz.func25, Tryz.ntmps25
        go_wp2_with fail
        refine HV.out.mono ?_
        rintro e w1 ⟨rfl, hb1⟩
        have HB1 := Lib.hid hb1
        clear hb1
        go_wp2_with fail
        go_ret2
        exact OutSq.nil HO.out HB1.out
end Go.Proofs.YtabolonlkocopaaGreatDoor
