
/- join: each square takes the place of its children where the cover has all of them. -/
import Derived.Test.YtabolonlkocopaaGreatDoorReg
namespace Go.Proofs.YtabolonlkocopaaGreatDoor
open Go.RowKit Go.Plc Go.Shelf
attribute [local go_sem] Oper.semAt_some

theorem CBut.grown {b : Nat → Nat} {w X Y : World} {row : Option Nat} (h : CBut b w X) (hg : X.grownBy Y row) (hr : ∀ r, row = some r → w.heap.size ≤ r) : CBut b w Y :=
  ⟨hg.os.trans h.os, hg.tape.trans h.tape, hg.output.trans h.output, Nat.le_trans h.size hg.size, fun k hk hb => (hg.block k (Nat.lt_of_lt_of_le hk h.size) (fun e => by have := hr k e.symm; omega)).trans (h.block k hk hb)⟩
theorem CBut.ka {b : Nat → Nat} {X Y : World} {G : Nat} (h : CBut b X Y) (hb : ∀ i, i < 11 → b i < G) : KA G none X Y :=
  ⟨h.size, fun k _ hG hk _ => h.heap hk (fun i hi e => by have := hb i hi; omega)⟩
theorem KA.at_ {G : Nat} {X Y : World} (h : KA G none X Y) {k : Nat} {o : Obj} (hG : G ≤ k) (hk : X.heap[k]? = some o) : Y.heap[k]? = some o := h.same k o hG hk (by simp)
theorem KA.mono {G G' : Nat} {ow : Option Nat} {X Y : World} (h : KA G ow X Y) (hG : G ≤ G') : KA G' ow X Y := ⟨h.size, fun k o hk ho hne => h.same k o (Nat.le_trans hG hk) ho hne⟩
theorem drop_len_le (C : List Sq) (s : Sq) : (dropS C s).length ≤ C.length := List.length_filter_le _ _
theorem drop_len_lt {C : List Sq} {s : Sq} (h : s ∈ C) : (dropS C s).length < C.length := List.length_filter_lt_length_iff_exists.2 ⟨s, h, by simp⟩
theorem joinStep_len (C : List Sq) (s : Sq) : (joinStep C s).length ≤ C.length := by
  unfold joinStep
  split
  · rename_i h
    have hk : (⟨(parS s).l - 1, 2 * (parS s).x, 2 * (parS s).y⟩ : Sq) ∈ C := by
      unfold leadsS at h
      simp [kidsS] at h
      exact h.2.1
    refine Nat.le_trans (addS_len _ _) ?_
    simp only [kidsS, List.foldl_cons, List.foldl_nil]
    have h1 := drop_len_lt hk
    exact Nat.lt_of_le_of_lt (Nat.le_trans (drop_len_le _ _) (Nat.le_trans (drop_len_le _ _) (drop_len_le _ _))) h1
  · exact Nat.le_refl _
theorem joins_len (pre : List Sq) : ∀ C : List Sq, (pre.foldl joinStep C).length ≤ C.length := by
  induction pre with
  | nil => intro C; exact Nat.le_refl _
  | cons s r ih => intro C; exact Nat.le_trans (ih _) (joinStep_len C s)

structure JoinI (w : World) (b : Nat → Nat) (C : List Sq) (pre : List Sq) (ow : Option Nat) (X : World) : Prop where
  cov : Cov X b (pre.foldl joinStep C)
  box : X.heap[w.heap.size]? = some (.cells (covA b) 54)
  box2 : X.heap[w.heap.size + 1]? = some (.cells (covA b) 54)
  but : CBut b w X
  ow : ow = none
theorem JoinI.own {w : World} {b : Nat → Nat} {C : List Sq} (hb : ∀ i, i < 11 → b i < w.heap.size) (ow : Option Nat) : OwnFrom (w.heap.size + 2) (fun pre => JoinI w b C pre ow) := by
  intro pre X Y row h hg hr
  have hne : ∀ k, k < w.heap.size + 2 → some k ≠ row := fun k hk e => by have := (hr k e.symm).1; omega
  exact ⟨h.cov.grownB hb hg (fun r e => by have := (hr r e).1; omega), (hg.block _ (Array.getElem?_eq_some_iff.1 h.box).1 (hne _ (by omega))).trans h.box, (hg.block _ (Array.getElem?_eq_some_iff.1 h.box2).1 (hne _ (by omega))).trans h.box2, h.but.grown hg (fun r e => by have := (hr r e).1; omega), h.ow⟩

theorem leads_any (b : Nat → Nat) (s : Sq) (C : List Sq) (w : World) (h : Cov w b C) (hs : s.okB = true) :
    Calls Tryz.prog 49 #[.agg (covA b), sqv s] w fun e w' => e = .returned (.bool (leadsS C s)) ∧ Below w.heap.size w w' := by
  by_cases g1 : s.l < 10
  · by_cases g2 : s.x % 2 = 0
    · by_cases g3 : s.y % 2 = 0
      · exact leads_yes b s C w h hs g1 g2 g3
      · exact leads_no b s C w hs (.inr (.inr g3))
    · exact leads_no b s C w hs (.inr (.inl g2))
  · exact leads_no b s C w hs (.inl (by have := ((Sq.okB_iff s).1 hs).2.1; omega))
/-- the boxes of a round of join, in its course -/
structure JoinR (b : Nat → Nat) (D : List Sq) (g Bp : Nat) (p : Sq) (W X : World) : Prop where
  cov : Cov X b D
  box : X.heap[g]? = some (.cells (covA b) 54)
  s : X.heap[Bp]? = some (.cells #[.int .i64 p.l, .int .i64 p.x, .int .i64 p.y] 31)
  but : CBut b W X
theorem JoinR.step {G : Nat} {b : Nat → Nat} {D D' : List Sq} {g Bx : Nat} {s : Sq} {W X Y : World} (h : JoinR b D g Bx s W X) (hb : ∀ i, i < 11 → b i < G) (hg : G ≤ g) (hx : G ≤ Bx) (hc : Cov Y b D') (h2 : CBut b X Y) : JoinR b D' g Bx s W Y :=
  ⟨hc, (h2.ka hb).at_ hg h.box, (h2.ka hb).at_ hx h.s, h.but.trans h2⟩

set_option maxRecDepth 100000 in
set_option maxHeartbeats 2000000 in
theorem join_in (n : Nat) (hn : 6 ≤ n) (b : Nat → Nat) (C : List Sq) (w : World) (h : Cov w b C) (hlen : C.length ≤ 1000000) :
    CallsIn Fence.wide n Tryz.prog 86 #[.agg (covA b)] w fun e w' => e = .returned (.tuple #[]) ∧ Cov w' b ((walkTo (fun pre => pre.foldl joinStep C) 11).foldl joinStep C) ∧ CBut b w w' := by
  have hbl : ∀ i, i < 11 → b i < w.heap.size := fun i hi => (h.row i hi).lt
  have hIt : ∀ pre ow X, JoinI w b C pre ow X → Cov X b ((fun pre : List Sq => pre.foldl joinStep C) pre) ∧ X.heap[w.heap.size + 1]? = some (.cells (covA b) 54) ∧ ((fun pre : List Sq => pre.foldl joinStep C) pre).length ≤ 1000000 ∧ ∀ k, ow = some k → k < X.heap.size :=
    fun pre ow X h => ⟨h.cov, h.box2, Nat.le_trans (joins_len pre C) hlen, fun k e => by rw [h.ow] at e; cases e⟩
  have h0 : JoinI w b C [] none ((w.alloc (.cells (covA b) 54)).alloc (.cells (covA b) 54)) :=
    ⟨(h.below (below_new _)).below (below_new _), (Below.heap_alloc _ _ _ (by simp)).trans (World.alloc_heap_new w _), by have := World.alloc_heap_new (w.alloc (.cells (covA b) 54)) (.cells (covA b) 54); rwa [World.size_alloc] at this,
      (CBut.of_below (below_new _)).trans (CBut.of_below (below_new _)), rfl⟩
  have hsz0 : ((w.alloc (.cells (covA b) 54)).alloc (.cells (covA b) 54)).heap.size = w.heap.size + 2 := by simp
  refine callsIn_of_wp_marks Tryz.func86 rfl trivial ?_ rfl
  simp only [Tryz.ntmps86, List.size_toArray, List.length_cons, List.length_nil, Nat.reduceAdd, Nat.reduceSub, Array.replicate_succ, Array.replicate_zero, List.push_toArray, List.append_toArray, List.nil_append, List.cons_append]
  obtain ⟨q0, q1, q2, q3, q4, q5, q6, q7, q8, q9, q10⟩ := cov_cells (World.alloc_heap_new w (.cells (covA b) 54))
  have hcA : covA b = #[.map (some (b 0)), .map (some (b 1)), .map (some (b 2)), .map (some (b 3)), .map (some (b 4)), .map (some (b 5)), .map (some (b 6)), .map (some (b 7)), .map (some (b 8)), .map (some (b 9)), .map (some (b 10))] := rfl
  rw [hcA]
  rw [hcA] at q0 q1 q2 q3 q4 q5 q6 q7 q8 q9 q10
  gi_wp2_with (refine ⟨trivial, fun h => (by first | omega | cases h), ?_⟩; gi_at_call 88; refine (callsIn_wide.2 (squares_any b _)).mono ?_; rintro e w2 ⟨rfl, rfl⟩)
  rw [← hcA]
  generalize (w.alloc (.cells (covA b) 54)).alloc (.cells (covA b) 54) = W0 at *
  refine wp_rangeG (by omega) (gf := 112) (lb := #[.pointer (some ⟨w.heap.size + 1, 0, none⟩)]) rfl (enters_of Tryz.func112 (by kernel_rfl) rfl) (encs := fun s : Sq => #[sqv s]) (fun _ => rfl)
    (JoinI w b C) (fun _ _ _ => False) (fun ow => hsz0 ▸ JoinI.own hbl ow) (fun _ _ _ _ _ hs _ _ => hs) (fun pre ow W h k e => by rw [h.ow] at e; cases e) none h0
    (squares_iter W0.heap.size (n - 1) (by omega) b (w.heap.size + 1) (fun pre => pre.foldl joinStep C) (JoinI w b C) hIt)
    (fun x a' W => ∃ Bx, w.heap.size + 2 ≤ Bx ∧ W.heap[Bx]? = some (.cells #[.int .i64 x.l, .int .i64 x.x, .int .i64 x.y] 31) ∧ a' = { tmps := #[.agg (covA b), .pointer (some ⟨w.heap.size, 0, none⟩), .pointer (some ⟨Bx, 0, none⟩), undef, undef, undef, .agg (covA b), .func (.func 112) #[] #[.pointer (some ⟨w.heap.size + 1, 0, none⟩)], sqv x, undef, undef, undef, undef, undef, undef, undef, undef, undef, undef, undef, undef, undef, undef, undef, undef, undef, undef, undef, undef, undef, undef, undef], defers := [] })
    (fun x a' _ X Y row hs hg hr => by
      obtain ⟨Bx, h0, h1, h2⟩ := hs
      refine ⟨Bx, h0, (hg.block _ (Array.getElem?_eq_some_iff.1 h1).1 (fun e => ?_)).trans h1, h2⟩
      obtain ⟨_, o, ho, hc⟩ := hr Bx e.symm
      rw [h1] at ho; cases ho; cases hc)
    ?assign ?body ?done ?stop
  case assign =>
    intro l pre x ow W K hI hK
    unfold sqv
    gi_wp2_with fail
    refine hK _ _ (.inr ⟨_, rfl⟩) ⟨W.heap.size, ?_, World.alloc_heap_new W _, rfl⟩
    have := (Array.getElem?_eq_some_iff.1 hI.box2).1
    omega
  case body =>
    rintro l pre x ow a' W hl ⟨r, hr⟩ hI ⟨Bx, hBx, hx, rfl⟩ ⟨hxo, hpf⟩
    have how := hI.ow
    subst how
    have HI := Lib.hid hI
    have HD := Lib.hid (show (pre ++ [x]).foldl joinStep C = joinStep (pre.foldl joinStep C) x by rw [List.foldl_append]; rfl)
    have HDl := Lib.hid (Nat.le_trans (joins_len pre C) hlen)
    have hDC := hI.cov
    have hW := hI.but.size
    have hDCv := Lib.hid hI.cov
    generalize hD : pre.foldl joinStep C = D at *
    obtain ⟨q0, q1, q2, q3, q4, q5, q6, q7, q8, q9, q10⟩ := cov_cells hI.box
    obtain ⟨s0, s1, s2⟩ := sq_cells hx
    obtain ⟨h1, h2, h3, h4, h5, h6⟩ := (Sq.okB_iff x).1 hxo
    have HL := Lib.hid (leads_any b x D W hDC hxo)
    have HX := Lib.hid hx
    have HO := Lib.hid hxo
    have HBx := Lib.hid (show Bx < W.heap.size ∧ w.heap.size < W.heap.size from ⟨(Array.getElem?_eq_some_iff.1 hx).1, (Array.getElem?_eq_some_iff.1 hI.box).1⟩)
    cases hld : leadsS D x
    · rw [hld] at HL
      have HJ := Lib.hid (show joinStep D x = D by unfold joinStep; rw [hld]; rfl)
      clear hI hDC hx hld hD hxo
      gi_wp2_with (refine ⟨trivial, fun h => (by first | omega | cases h), ?_⟩; gi_at_call 49; refine (CallsIn.inRound _ (callsIn_wide.2 HL.out)).mono ?_; rintro e w1 ⟨rfl, hb1⟩)
      have hcb : CBut b W w1 := CBut.of_below hb1
      refine ⟨(hcb.ka hbl).mono (show w.heap.size ≤ W0.heap.size by omega), none, ⟨?_, (hcb.ka hbl).at_ (Nat.le_refl _) HI.out.box, (hcb.ka hbl).at_ (by omega) HI.out.box2, HI.out.but.trans hcb, rfl⟩, .inl rfl⟩
      rw [HD.out, HJ.out]
      exact hDCv.out.below hb1
    · rw [hld] at HL
      have hl10 : x.l < 10 := by
        unfold leadsS at hld
        simp at hld
        omega
      have HJ := Lib.hid (show joinStep D x = addS ((kidsS (parS x)).foldl dropS D) (parS x) by unfold joinStep; rw [hld]; rfl)
      have HP := Lib.hid (And.intro (par_ok hxo hl10) (show 1 ≤ (parS x).l by show 1 ≤ x.l + 1; omega))
      have HBl := Lib.hid (show ∀ w, Calls Tryz.prog 94 #[.agg #[.int .i64 x.l, .int .i64 x.x, .int .i64 x.y], .int .i64 (x.l + 1)] w fun e w' => e = .returned (.agg #[.int .i64 (parS x).l, .int .i64 (parS x).x, .int .i64 (parS x).y]) ∧ Below w.heap.size w w' from fun w => blur_any x (x.l + 1) w h1 (by omega) (by omega))
      generalize parS x = p at *
      clear hI hDC hx hld hD hxo
      gi_wp2_with fail
      refine ⟨trivial, fun h => (by first | omega | cases h), (CallsIn.inRound _ (callsIn_wide.2 HL.out)).mono ?_⟩
      rintro e w1 ⟨rfl, hb1⟩
      have s0' := (hb1.cell HBx.out.1).trans s0; have s1' := (hb1.cell HBx.out.1).trans s1; have s2' := (hb1.cell HBx.out.1).trans s2
      gi_wp2_with fail
      refine ⟨trivial, fun h => (by first | omega | cases h), (CallsIn.inRound _ (callsIn_wide.2 (HBl.out w1))).mono ?_⟩
      rintro e w2 ⟨rfl, hb2⟩
      gi_wp2_with fail
      refine ⟨trivial, fun h => (by first | omega | cases h), (CallsIn.inRound _ (callsIn_wide.2 (children_any p _ HP.out.1 HP.out.2))).mono ?_⟩
      rintro e w3 ⟨v, rfl, hnew, hb3⟩
      obtain ⟨g', c, rfl, hg1, hg2, hA⟩ := hnew.slice
      rw [show (kidsS p).length = 4 from rfl]
      have hB2 : Below W.heap.size W w2 := hb1.trans (hb2.mono hb1.size)
      have hB3 : Below W.heap.size W w3 := (hB2.trans ((below_new _).mono hB2.size)).trans (hb3.mono (by have := hB2.size; simp; omega))
      have HJR := Lib.hid (show JoinR b D w.heap.size w2.heap.size p W w3 from
        ⟨hDCv.out.below hB3, (hB3.block _ HBx.out.2).trans HI.out.box, (hb3.block _ (by simp)).trans (World.alloc_heap_new w2 _), CBut.of_below hB3⟩)
      have HG := Lib.hid (show w.heap.size ≤ w2.heap.size ∧ w2.heap.size < w3.heap.size from ⟨by have := hB2.size; omega, by have := hb3.size; simp at this; omega⟩)
      have HAk := Lib.hid (show ∀ X : World, KA w.heap.size none w3 X → SqA X w3.heap.size (some ⟨g', 0, none⟩) (kidsS p) from fun X hX => SqA.of_block hA (by
        have hg : w3.heap[g']? = some (w3.heap[g']'hg2) := Array.getElem?_eq_getElem _
        rw [hg]; exact hX.at_ (by simp at hg1; have := hB2.size; omega) hg))
      clear hnew hA hb1 hb2 hb3 hg1 hg2 hB2 hB3 s0 s1 s2 s0' s1' s2' q0 q1 q2 q3 q4 q5 q6 q7 q8 q9 q10
      generalize w2.heap.size = Bp at *
      generalize (⟨g', 0, none⟩ : Addr) = ad0 at *
      gi_wp2_with fail
      gi_loopw [21] (fun k X => ∃ j : Nat, k = .int .i64 (j : Int) ∧ j ≤ 4 ∧ JoinR b (((kidsS p).take j).foldl dropS D) w.heap.size Bp p W X ∧ KA w.heap.size none w3 X) (fun k _ => 4 - (intOf k).toNat)
      case atStart => exact ⟨0, rfl, by omega, HJR.out, KA.refl _ _ _⟩
      case round =>
        obtain ⟨j, rfl, hj, hjr, hka⟩ := hrel
        have HR := Lib.hid hjr
        have HK := Lib.hid hka
        obtain ⟨q0, q1, q2, q3, q4, q5, q6, q7, q8, q9, q10⟩ := cov_cells hjr.box
        obtain ⟨p0, p1, p2⟩ := sq_cells hjr.s
        have hz1 : w.heap.size < wr.heap.size := (Array.getElem?_eq_some_iff.1 hjr.box).1
        have hz2 : Bp < wr.heap.size := (Array.getElem?_eq_some_iff.1 hjr.s).1
        clear hjr hka
        by_cases hlt : j < 4
        · obtain ⟨k, ad, hk, hm, had, hb, c1, c2, c3⟩ := (HAk.out _ HK.out).at_ (n := 4) rfl hlt
          injection had with had
          subst had
          have HKo := Lib.hid (kids_ok HP.out.1 HP.out.2 k hm)
          have HT := Lib.hid (show ((kidsS p).take (j + 1)).foldl dropS D = dropS (((kidsS p).take j).foldl dropS D) k by
            rw [List.take_add_one, hk, List.foldl_append]; rfl)
          clear hk hm hb
          gi_wp2_with fail
          refine ⟨trivial, fun h => (by first | omega | cases h), (CallsIn.inRound _ (callsIn_wide.2 (drop_cov b k _ _ (HR.out.cov.below (below_new _)) HKo.out))).mono ?_⟩
          rintro e w5 ⟨rfl, hc5, hcb5⟩
          have hcb6 := (CBut.of_below (b := b) (below_new (w := wr) _)).trans hcb5
          have H5 := Lib.hid (show JoinR b (((kidsS p).take (j + 1)).foldl dropS D) w.heap.size Bp p W w5 ∧ KA w.heap.size none w3 w5 from
            ⟨HR.out.step hbl (Nat.le_refl _) HG.out.1 (HT.out ▸ hc5) hcb6, HK.out.trans (hcb6.ka hbl)⟩)
          clear hc5 hcb5 hcb6
          gi_wp2_with fail
          go_roundw
          case rel => exact ⟨j + 1, by go_num, by omega, H5.out⟩
          case measure => simp [intOf]; omega
        · have ej : j = 4 := by omega
          have hlen4 : (((kidsS p).take j).foldl dropS D).length < maxLen := by
            subst ej
            have e : (kidsS p).take 4 = kidsS p := rfl
            rw [e]
            simp only [kidsS, List.foldl_cons, List.foldl_nil]
            refine Nat.lt_of_le_of_lt (Nat.le_trans (drop_len_le _ _) (Nat.le_trans (drop_len_le _ _) (Nat.le_trans (drop_len_le _ _) (drop_len_le _ _)))) ?_
            have := HDl.out
            unfold maxLen; omega
          have HL4 := Lib.hid hlen4
          clear hlen4
          gi_wp2_with fail
          refine ⟨trivial, fun h => (by first | omega | cases h), (CallsIn.inRound _ (callsIn_wide.2 (add_cov b p _ _ HR.out.cov HP.out.1 HL4.out))).mono ?_⟩
          rintro e w5 ⟨rfl, hc5, hcb5⟩
          gi_wp2_with fail
          have hcb := HR.out.but.trans hcb5
          refine ⟨(hcb.ka hbl).mono (show w.heap.size ≤ W0.heap.size by omega), none, ⟨?_, (hcb.ka hbl).at_ (Nat.le_refl _) HI.out.box, (hcb.ka hbl).at_ (by omega) HI.out.box2, HI.out.but.trans hcb, rfl⟩, .inl rfl⟩
          rw [HD.out, HJ.out]
          subst ej
          exact hc5
  case done =>
    rintro D xs ow W hD rfl hI hK
    gi_wp2_with fail
    refine ⟨by simp, .inl ⟨_, _, rfl, run_takeDeferred hK, ?_⟩⟩
    have hgr := grownBy_putObj' W D (.deferred none)
    exact ⟨_, results_none rfl _ _ _, rfl, hI.cov.grownB hbl hgr (fun r e => by cases e; omega), hI.but.grown hgr (fun r e => by cases e; omega)⟩
  case stop =>
    rintro D c pre W hD _ h _
    exact h.elim
end Go.Proofs.YtabolonlkocopaaGreatDoor
