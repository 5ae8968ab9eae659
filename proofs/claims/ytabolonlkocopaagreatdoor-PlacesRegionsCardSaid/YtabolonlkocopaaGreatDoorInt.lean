
/- addThose, Intersect. -/
import Derived.Test.YtabolonlkocopaaGreatDoorMns
import Derived.Test.YtabolonlkocopaaGreatDoorSquW
namespace Go.Proofs.YtabolonlkocopaaGreatDoor
open Go.RowKit Go.Plc Go.Shelf

def addIn (O C : List Sq) (s : Sq) : List Sq := if coversS O s then addS C s else C
def interS (a b : List Sq) : List Sq := b.foldl (addIn (ofList a)) (a.foldl (addIn (ofList b)) [])
def interOut (a b : List Sq) : List Sq × Int := if regB a && regB b then (if 4096 < (interS a b).length then ([], 2) else (regionS (interS a b), 0)) else ([], 11)
example : interOut [⟨1,2,1⟩] [⟨0,5,3⟩, ⟨0,9,9⟩] = ([⟨0,5,3⟩], 0) := by decide +kernel
theorem addIn_len (O : List Sq) : ∀ (L C : List Sq), (L.foldl (addIn O) C).length ≤ C.length + L.length
  | [], C => by simp
  | s :: L, C => by
    have h := addIn_len O L (addIn O C s)
    have h2 : (addIn O C s).length ≤ C.length + 1 := by
      unfold addIn; split
      · exact addS_len C s
      · omega
    simp only [List.foldl_cons, List.length_cons]; omega

theorem cell_ne_map {w : World} {b : Nat → Nat} {C : List Sq} (h : Cov w b C) {p : Addr} {v : Value} (hc : w.cell? p = some v) : ∀ i, i < 11 → p.block ≠ b i := by
  intro i hi e
  obtain ⟨o, ho, hno⟩ := h.map_at hi
  unfold World.cell? at hc
  rw [e, ho] at hc
  cases o with
  | cells cs t fr => exact hno cs t fr rfl
  | _ => simp at hc
theorem SqA.cbut {w w' : World} {b : Nat → Nat} {C : List Sq} {B : Nat} {A : Option Addr} {L : List Sq} (h : SqA w B A L) (hc : Cov w b C) (hb : CBut b w w') : SqA w' B A L := by
  have key : ∀ (p : Addr) v, w.cell? p = some v → w'.cell? p = some v := fun p v hp => by
    have h1 := cell_ne_map hc hp
    have h2 := hb.block p.block (World.block_lt_of_cell? _ _ hp) h1
    unfold World.cell? at hp ⊢
    rw [h2]; exact hp
  intro i s hs
  obtain ⟨ad, ha, hlt, h1, h2, h3⟩ := h i s hs
  exact ⟨ad, ha, hlt, key _ _ h1, key _ _ h2, key _ _ h3⟩
theorem SqSl.cbut {w w' : World} {b : Nat → Nat} {C : List Sq} {B : Nat} {v : Value} {L : List Sq} (h : SqSl w B v L) (hc : Cov w b C) (hb : CBut b w w') : SqSl w' B v L := by
  obtain ⟨A, c, hv, h⟩ := h; exact ⟨A, c, hv, h.cbut hc hb⟩

structure AdI (w : World) (bc bo : Nat → Nat) (C O : List Sq) (X : World) : Prop where
  c : Cov X bc C
  o : Cov X bo O
  b1 : X.heap[w.heap.size]? = some (.cells (covA bc) 54)
  b2 : X.heap[w.heap.size + 1]? = some (.cells (covA bo) 54)
  but : CBut bc w X
structure AdB (w : World) (bc bo : Nat → Nat) : Prop where
  c : ∀ i, i < 11 → bc i < w.heap.size
  o : ∀ i, i < 11 → bo i < w.heap.size
  ne : ∀ i j, i < 11 → j < 11 → bc i ≠ bo j
theorem AdI.below {w X Y : World} {bc bo : Nat → Nat} {C O : List Sq} (h : AdI w bc bo C O X) (hb : Below X.heap.size X Y) : AdI w bc bo C O Y :=
  ⟨h.c.below hb, h.o.below hb, (hb.block _ (Array.getElem?_eq_some_iff.1 h.b1).1).trans h.b1, (hb.block _ (Array.getElem?_eq_some_iff.1 h.b2).1).trans h.b2, h.but.trans (CBut.of_below hb)⟩
theorem AdI.add {w X Y : World} {bc bo : Nat → Nat} {C O C' : List Sq} (h : AdI w bc bo C O X) (hB : AdB w bc bo) (hc : Cov Y bc C') (hb : CBut bc X Y) : AdI w bc bo C' O Y :=
  ⟨hc, h.o.keep fun i hi => hb.block _ (h.o.lt i hi) (fun j hj e => hB.ne j i hj hi e.symm), hb.heap h.b1 (fun i hi e => by have := hB.c i hi; omega), hb.heap h.b2 (fun i hi e => by have := hB.c i hi; omega), h.but.trans hb⟩

set_option maxRecDepth 100000 in
set_option maxHeartbeats 4000000 in
theorem addThose_any (bc bo : Nat → Nat) (v : Value) (C O L : List Sq) (w : World) (hc : Cov w bc C) (ho : Cov w bo O) (hne : ∀ i j, i < 11 → j < 11 → bc i ≠ bo j) (hv : SqSl w w.heap.size v L) (hok : ∀ s ∈ L, s.okB = true) (hn : L.length ≤ 1000000) (hC : C.length ≤ 1000000) :
    Calls Tryz.prog 50 #[.agg (covA bc), v, .agg (covA bo)] w fun e w' => e = .returned (.tuple #[]) ∧ Cov w' bc (L.foldl (addIn O) C) ∧ CBut bc w w' := by
  have HB := Lib.hid (show AdB w bc bo from ⟨hc.lt, ho.lt, hne⟩)
  have HV := Lib.hid (fun X (h : CBut bc w X) => hv.cbut hc h)
  have HO := Lib.hid hok
  have H0 := Lib.hid (show AdI w bc bo C O ((w.alloc (.cells (covA bc) 54)).alloc (.cells (covA bo) 54)) from
    have hb : Below w.heap.size w ((w.alloc (.cells (covA bc) 54)).alloc (.cells (covA bo) 54)) := (below_new _).trans ((below_new _).mono (by simp))
    ⟨hc.below hb, ho.below hb, (Below.heap_alloc _ _ _ (by simp)).trans (World.alloc_heap_new w _), by have := World.alloc_heap_new (w.alloc (.cells (covA bc) 54)) (.cells (covA bo) 54); rwa [World.size_alloc] at this, CBut.of_below hb⟩)
  obtain ⟨A, cp, rfl, _⟩ := hv
  have hcA : ∀ b : Nat → Nat, covA b = #[.map (some (b 0)), .map (some (b 1)), .map (some (b 2)), .map (some (b 3)), .map (some (b 4)), .map (some (b 5)), .map (some (b 6)), .map (some (b 7)), .map (some (b 8)), .map (some (b 9)), .map (some (b 10))] := fun _ => rfl
  have HA := Lib.hid hcA
  clear hcA hc ho hne hok
  generalize hL : L.length = n at *
  have HL := Lib.hid hL
  clear hL
  unfold covA
  go_enter Tryz.func50, Tryz.ntmps50
  go_wp2_with fail
  rw [← HA.out bc, ← HA.out bo]
  generalize (w.alloc (.cells (covA bc) 54)).alloc (.cells (covA bo) 54) = w0 at *
  go_loopw [10] (fun k wr => ∃ i : Nat, k = .int .i64 (i : Int) ∧ i ≤ n ∧ AdI w bc bo ((L.take i).foldl (addIn O) C) O wr) (fun k _ => n - (intOf k).toNat)
  case atStart => exact ⟨0, rfl, Nat.zero_le _, H0.out⟩
  case round =>
    obtain ⟨i, rfl, hin, hI⟩ := hrel
    have HI := Lib.hid hI
    obtain ⟨q0, q1, q2, q3, q4, q5, q6, q7, q8, q9, q10⟩ := cov_cells hI.b2
    have hsz1 : w.heap.size + 1 < wr.heap.size := (Array.getElem?_eq_some_iff.1 hI.b2).1
    have hsz0 : w.heap.size < wr.heap.size := by omega
    clear hI
    by_cases hlt : i < n
    · have hS := HV.out wr HI.out.but
      obtain ⟨A', c', e, hS⟩ := hS
      injection e with e1 e2 e3
      subst e1
      obtain ⟨s, ad, hs, hm, rfl, hb, h1, h2, h3⟩ := hS.at_ HL.out hlt
      have HSi := Lib.hid hs
      have HOs := Lib.hid (HO.out s hm)
      clear hs hm e2 e3 hS
      have hadb : ad.block < wr.heap.size := by omega
      go_wp2_with fail
      have HI1 := Lib.hid (HI.out.below (below_new (.cells #[.int .i64 s.l, .int .i64 s.x, .int .i64 s.y] 31)))
      have HSb := Lib.hid (World.alloc_heap_new wr (.cells #[.int .i64 s.l, .int .i64 s.x, .int .i64 s.y] 31))
      have HC := Lib.hid (covers_any bo s O _ HI1.out.o HOs.out)
      unfold covA sqv at HC
      refine HC.out.mono ?_
      rintro e w1 ⟨rfl, hb1⟩
      have HI2 := Lib.hid (HI1.out.below hb1)
      have HS2 := Lib.hid ((hb1.block wr.heap.size (by simp)).trans HSb.out)
      have HFo := Lib.hid (show (L.take (i + 1)).foldl (addIn O) C = addIn O ((L.take i).foldl (addIn O) C) s from fold_take _ _ _ _ _ HSi.out)
      have HLn := Lib.hid (addIn_len O (L.take i) C)
      clear hb1 HI1 HSb HC q0 q1 q2 q3 q4 q5 q6 q7 q8 q9 q10
      cases hcv : coversS O s
      · have HE := Lib.hid (show addIn O ((L.take i).foldl (addIn O) C) s = (L.take i).foldl (addIn O) C by unfold addIn; rw [hcv]; rfl)
        clear hcv
        go_wp2_with fail
        go_roundw
        case rel => exact ⟨i + 1, by go_num, by omega, by rw [HFo.out, HE.out]; exact HI2.out⟩
        case measure => simp [intOf]; omega
      · have HE := Lib.hid (show addIn O ((L.take i).foldl (addIn O) C) s = addS ((L.take i).foldl (addIn O) C) s by unfold addIn; rw [hcv]; rfl)
        clear hcv
        obtain ⟨p0, p1, p2, p3, p4, p5, p6, p7, p8, p9, p10⟩ := cov_cells HI2.out.b1
        obtain ⟨s0, s1, s2⟩ := sq_cells HS2.out
        have hz : w.heap.size < w1.heap.size := (Array.getElem?_eq_some_iff.1 HI2.out.b1).1
        have hz2 : wr.heap.size < w1.heap.size := (Array.getElem?_eq_some_iff.1 HS2.out).1
        have HAd := Lib.hid (add_cov bc s _ w1 HI2.out.c HOs.out (by have := HLn.out; rw [List.length_take] at this; unfold maxLen; omega))
        unfold covA sqv at HAd
        go_wp2_with fail
        refine HAd.out.mono ?_
        rintro e w2 ⟨rfl, hcov, hbut⟩
        have HI3 := Lib.hid (HI2.out.add HB.out hcov hbut)
        clear hcov hbut
        go_wp2_with fail
        go_roundw
        case rel => exact ⟨i + 1, by go_num, by omega, by rw [HFo.out, HE.out]; exact HI3.out⟩
        case measure => simp [intOf]; omega
    · have hi : i = L.length := by have := HL.out; omega
      have HE := Lib.hid (show (L.take i).foldl (addIn O) C = L.foldl (addIn O) C by rw [hi, List.take_length])
      clear hi
      go_wp2_with fail
      go_end0
      exact ⟨rfl, by rw [← HE.out]; exact HI.out.c, HI.out.but⟩

/-- the cover that is gathered, in its box -/
structure InB (w : World) (b : Nat → Nat) (g : Nat) (C : List Sq) (X : World) : Prop where
  bd : ∀ i, i < 11 → w.heap.size ≤ b i ∧ b i < g
  c : Cov X b C
  box : X.heap[g]? = some (.cells (covA b) 54)
  bel : Below w.heap.size w X
theorem InB.below {w X Y : World} {b : Nat → Nat} {g : Nat} {C : List Sq} (h : InB w b g C X) (hb : Below X.heap.size X Y) : InB w b g C Y :=
  ⟨h.bd, h.c.below hb, (hb.block _ (Array.getElem?_eq_some_iff.1 h.box).1).trans h.box, h.bel.trans (hb.mono h.bel.size)⟩
theorem InB.add {w X Y : World} {b : Nat → Nat} {g : Nat} {C C' : List Sq} (h : InB w b g C X) (hc : Cov Y b C') (hb : CBut b X Y) : InB w b g C' Y :=
  ⟨h.bd, hc, hb.heap h.box (fun i hi e => by have := h.bd i hi; omega), h.bel.trans (hb.below h.bel.size (fun i hi => (h.bd i hi).1))⟩
/-- what is left to do behind a call that adds -/
theorem addThose_in {w X Y : World} {b b2 : Nat → Nat} {g : Nat} {C O L : List Sq} {v : Value} (h : InB w b g C X) (hv : SqSl w w.heap.size v L) (hok : ∀ s ∈ L, s.okB = true) (hn : L.length ≤ 1000000) (hC : C.length ≤ 1000000)
    (hb : Below X.heap.size X Y) (hc2 : Cov Y b2 O) (hge : ∀ i, i < 11 → X.heap.size ≤ b2 i) :
    Calls Tryz.prog 50 #[.agg (covA b), v, .agg (covA b2)] Y fun e w' => e = .returned (.tuple #[]) ∧ InB w b g (L.foldl (addIn O) C) w' := by
  have hY := h.below hb
  refine (addThose_any b b2 v C O L Y hY.c hc2 (fun i j hi hj e => by have := hge j hj; have := h.c.lt i hi; omega) ((hv.below hY.bel).mono hY.bel.size) hok hn hC).mono ?_
  rintro e w' ⟨rfl, h1, h2⟩
  exact ⟨rfl, hY.add h1 h2⟩

set_option maxRecDepth 100000 in
set_option maxHeartbeats 8000000 in
theorem Intersect_any (u v : Value) (a b : List Sq) (w : World) (hu : SqSl w w.heap.size u a) (hv : SqSl w w.heap.size v b) (hna : a.length ≤ 1000000) (hnb : b.length ≤ 1000000) :
    Calls Tryz.prog 15 #[u, v] w (OutSq (interOut a b) w) := by
  have HVa := Lib.hid (fun (w1 : World) (hb : Below w.heap.size w w1) => ValidRegion_any u a w1 ((hu.below hb).mono hb.size) hna)
  have HVb := Lib.hid (fun (w1 : World) (hb : Below w.heap.size w w1) => ValidRegion_any v b w1 ((hv.below hb).mono hb.size) hnb)
  have HO := Lib.hid (show interOut a b = if regB a && regB b then (if 4096 < (interS a b).length then ([], 2) else (regionS (interS a b), 0)) else ([], 11) from rfl)
  have HSa := Lib.hid hu
  have HSb := Lib.hid hv
  clear hu hv
  have hcA : ∀ b : Nat → Nat, covA b = #[.map (some (b 0)), .map (some (b 1)), .map (some (b 2)), .map (some (b 3)), .map (some (b 4)), .map (some (b 5)), .map (some (b 6)), .map (some (b 7)), .map (some (b 8)), .map (some (b 9)), .map (some (b 10))] := fun _ => rfl
  have HA := Lib.hid hcA
  clear hcA
  cases ra : regB a
  · have HR := Lib.hid (show interOut a b = ([], 11) by rw [HO.out, ra]; rfl)
    rw [ra] at HVa
    clear ra HO
    go_enter Tryz.func15, Tryz.ntmps15
    go_wp2_with fail
    refine (HVa.out w (Below.refl _ _)).mono ?_
    rintro e w1 ⟨rfl, hb1⟩
    have HB1 := Lib.hid hb1
    clear hb1
    go_wp2_with fail
    go_ret2
    exact OutSq.nil HR.out HB1.out
  · have HGa := Lib.hid (reg_ok ra)
    rw [ra] at HVa
    cases rb : regB b
    · have HR := Lib.hid (show interOut a b = ([], 11) by rw [HO.out, rb, Bool.and_false]; rfl)
      rw [rb] at HVb
      clear ra rb HO
      go_enter Tryz.func15, Tryz.ntmps15
      go_wp2_with fail
      refine (HVa.out w (Below.refl _ _)).mono ?_
      rintro e w1 ⟨rfl, hb1⟩
      have HB1 := Lib.hid hb1
      clear hb1
      go_wp2_with fail
      refine (HVb.out w1 HB1.out).mono ?_
      rintro e w2 ⟨rfl, hb2⟩
      have HB2 := Lib.hid (HB1.out.trans (hb2.mono HB1.out.size))
      clear hb2
      go_wp2_with fail
      go_ret2
      exact OutSq.nil HR.out HB2.out
    · have HGb := Lib.hid (reg_ok rb)
      rw [rb] at HVb
      have HO2 := Lib.hid (show interOut a b = if 4096 < (interS a b).length then ([], 2) else (regionS (interS a b), 0) by rw [HO.out, ra, rb]; rfl)
      clear ra rb HO
      go_enter Tryz.func15, Tryz.ntmps15
      go_wp2_with fail
      refine (HVa.out w (Below.refl _ _)).mono ?_
      rintro e w1 ⟨rfl, hb1⟩
      have HB1 := Lib.hid hb1
      clear hb1
      go_wp2_with fail
      refine (HVb.out w1 HB1.out).mono ?_
      rintro e w2 ⟨rfl, hb2⟩
      have HB2 := Lib.hid (HB1.out.trans (hb2.mono HB1.out.size))
      clear hb2
      go_wp2_with fail
      refine (coverOf_any (.slice none 0 0) [] w2 ⟨none, 0, rfl, fun i s hs => by simp at hs⟩ (fun s hs => by cases hs) (by simp)).mono ?_
      rintro e w3 ⟨bl, rfl, hbl, hcl, hb3⟩
      have H3 := Lib.hid (show InB w bl w3.heap.size [] (w3.alloc (.cells (covA bl) 54)) from
        ⟨fun i hi => ⟨Nat.le_trans HB2.out.size (hbl i hi), hcl.lt i hi⟩, hcl.below (below_new _), World.alloc_heap_new w3 _, (HB2.out.trans (hb3.mono HB2.out.size)).trans ((below_new _).mono (Nat.le_trans HB2.out.size hb3.size))⟩)
      clear hbl hcl hb3
      unfold covA
      go_wp2_with fail
      rw [← HA.out bl]
      generalize w3.alloc (.cells (covA bl) 54) = W at *
      generalize w3.heap.size = g at *
      have H3d := Lib.hid (show InB w bl g [] W.drew from H3.out.below ((Below.refl _ _).drew))
      have HCo := Lib.hid (fun X (h : Below w.heap.size w X) => coverOf_any v b X ((HSb.out.below h).mono h.size) HGb.out.2 hnb)
      have HAd := Lib.hid (fun Y b2 hb hc2 hge => addThose_in (X := W.drew) (Y := Y) (b2 := b2) (O := ofList b) H3d.out HSa.out HGa.out.2 hna (by simp) hb hc2 hge)
      obtain ⟨q0, q1, q2, q3, q4, q5, q6, q7, q8, q9, q10⟩ := cov_cells H3.out.box
      have hz : g < W.heap.size := (Array.getElem?_eq_some_iff.1 H3.out.box).1
      unfold covA at HAd HCo
      go_region_with (first
        | (go_at_call 47; refine (HCo.out _ (H3.out.bel.drew)).mono ?_; rintro e Y ⟨b2, rfl, hge, hc2, hbY⟩; have hIY := H3d.out.below hbY; obtain ⟨p0, p1, p2, p3, p4, p5, p6, p7, p8, p9, p10⟩ := cov_cells hIY.box; have hzY : g < Y.heap.size := (Array.getElem?_eq_some_iff.1 hIY.box).1)
        | (go_at_call 50; refine (HAd.out _ _ hbY hc2 hge).mono ?_; rintro e Z ⟨rfl, hZ⟩))
      all_goals
        have hlz := addIn_len (ofList b) a []
        have HZ := Lib.hid (And.intro hZ hlz)
        clear hZ hlz hIY hbY hc2 hge p0 p1 p2 p3 p4 p5 p6 p7 p8 p9 p10 hzY
        clear HAd HCo H3d
        simp only [Exit.then]
        go_wp2_with fail
        have H5d := Lib.hid (show InB w bl g (a.foldl (addIn (ofList b)) []) Z.drew from HZ.out.1.below ((Below.refl _ _).drew))
        have HCo := Lib.hid (fun X (h : Below w.heap.size w X) => coverOf_any u a X ((HSa.out.below h).mono h.size) HGa.out.2 hna)
        have HAd := Lib.hid (fun Y b2 hb hc2 hge => addThose_in (X := Z.drew) (Y := Y) (b2 := b2) (O := ofList a) H5d.out HSb.out HGb.out.2 hnb (by have := HZ.out.2; have := HGa.out.1; simp at *; omega) hb hc2 hge)
        clear q0 q1 q2 q3 q4 q5 q6 q7 q8 q9 q10 hz
        obtain ⟨q0, q1, q2, q3, q4, q5, q6, q7, q8, q9, q10⟩ := cov_cells HZ.out.1.box
        have hz : g < Z.heap.size := (Array.getElem?_eq_some_iff.1 HZ.out.1.box).1
        unfold covA at HAd HCo
        go_region_with (first
          | (go_at_call 47; refine (HCo.out _ (HZ.out.1.bel.drew)).mono ?_; rintro e Y2 ⟨b3, rfl, hge3, hc3, hbY3⟩; have hIY3 := H5d.out.below hbY3; obtain ⟨p0, p1, p2, p3, p4, p5, p6, p7, p8, p9, p10⟩ := cov_cells hIY3.box; have hzY3 : g < Y2.heap.size := (Array.getElem?_eq_some_iff.1 hIY3.box).1)
          | (go_at_call 50; refine (HAd.out _ _ hbY3 hc3 hge3).mono ?_; rintro e V ⟨rfl, hV⟩))
      all_goals
        have HV := Lib.hid (show InB w bl g (interS a b) V from hV)
        have HLn := Lib.hid (show (interS a b).length ≤ 1000000 from by
          have h1 := addIn_len (ofList a) b (a.foldl (addIn (ofList b)) [])
          have h2 := HZ.out.2
          have h3 := HGa.out.1
          have h4 := HGb.out.1
          unfold interS
          simp at *
          omega)
        clear hV hIY3 hbY3 hc3 hge3 p0 p1 p2 p3 p4 p5 p6 p7 p8 p9 p10 hzY3 HAd HCo H5d q0 q1 q2 q3 q4 q5 q6 q7 q8 q9 q10 hz
        obtain ⟨q0, q1, q2, q3, q4, q5, q6, q7, q8, q9, q10⟩ := cov_cells HV.out.box
        have hz : g < V.heap.size := (Array.getElem?_eq_some_iff.1 HV.out.box).1
        have HR := Lib.hid (region_any bl (interS a b) V HV.out.c HLn.out)
        unfold covA at HR
        simp only [Exit.then]
        go_wp2_with fail
        refine HR.out.mono ?_
        rintro e w7 ⟨hb7, (⟨hl, rfl⟩ | ⟨hl, A', c', rfl, hA'⟩)⟩
        · have HB7 := Lib.hid (HV.out.bel.trans (hb7.mono HV.out.bel.size))
          have HR2 := Lib.hid (show interOut a b = ([], 2) by rw [HO2.out, if_pos hl])
          go_wp2_with fail
          go_ret2
          exact OutSq.nil HR2.out HB7.out
        · have HB7 := Lib.hid (HV.out.bel.trans (hb7.mono HV.out.bel.size))
          have HR2 := Lib.hid (show interOut a b = (regionS (interS a b), 0) by rw [HO2.out, if_neg (by omega)])
          go_wp2_with fail
          go_ret2
          exact OutSq.mk HR2.out hA' HB7.out
end Go.Proofs.YtabolonlkocopaaGreatDoor
