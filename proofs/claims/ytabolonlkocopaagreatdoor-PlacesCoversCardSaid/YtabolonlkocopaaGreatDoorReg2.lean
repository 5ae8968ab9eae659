
/- ValidRegion. -/
import Derived.Test.YtabolonlkocopaaGreatDoorNrm
namespace Go.Proofs.YtabolonlkocopaaGreatDoor
open Go.RowKit Go.Plc Go.Shelf

theorem ite_neg_of {c : Prop} [Decidable c] {a b : Prop} (hn : ¬ c) (hb : b) : if c then a else b := by rw [if_neg hn]; exact hb
def goodB (L : List Sq) (j : Nat) : Bool :=
  match L[j]? with
  | none => true
  | some s => s.okB && (decide (j = 0) || match L[j - 1]? with | none => true | some p => aheadB p s)
def regB (L : List Sq) : Bool := decide (L.length ≤ 4096) && (List.range L.length).all (goodB L) && L.all fun s => !(hasAroundS (ofList L) s || leadsS (ofList L) s)

theorem good_pos {L : List Sq} {i : Nat} {s p : Sq} (hs : L[i]? = some s) (hp : L[i - 1]? = some p) (h : 0 < i) : goodB L i = (s.okB && aheadB p s) := by
  have : decide (i = 0) = false := by simp; omega
  simp [goodB, hs, hp, this]
theorem good_zero {L : List Sq} {i : Nat} {s : Sq} (hs : L[i]? = some s) (h : i = 0) : goodB L i = s.okB := by subst h; simp [goodB, hs]
theorem reg_bad {L : List Sq} {i n : Nat} (hn : L.length = n) (hi : i < n) (h : goodB L i = false) : regB L = false := by
  have : (List.range L.length).all (goodB L) = false := by
    rw [List.all_eq_false]
    exact ⟨i, by simp [hn, hi], by simp [h]⟩
  unfold regB; rw [this]; simp
theorem reg_bad2 {L : List Sq} {s : Sq} (hs : s ∈ L) (h : (hasAroundS (ofList L) s || leadsS (ofList L) s) = true) : regB L = false := by
  have : (L.all fun s => !(hasAroundS (ofList L) s || leadsS (ofList L) s)) = false := by
    rw [List.all_eq_false]
    exact ⟨s, hs, by simp [h]⟩
  unfold regB; rw [this]; simp
theorem good_ok {L : List Sq} {n : Nat} (hn : L.length = n) (h : ∀ j, j < n → goodB L j = true) : ∀ s ∈ L, s.okB = true := by
  intro s hs
  obtain ⟨j, hj, rfl⟩ := List.getElem_of_mem hs
  have := h j (by omega)
  unfold goodB at this
  rw [List.getElem?_eq_getElem hj] at this
  simp at this
  exact this.1
theorem reg_good {L : List Sq} {n : Nat} (hn : L.length = n) (hb : n ≤ 4096) (h : ∀ j, j < n → goodB L j = true) (h2 : ∀ j s, j < n → L[j]? = some s → (hasAroundS (ofList L) s || leadsS (ofList L) s) = false) : regB L = true := by
  unfold regB
  have h1 : (List.range L.length).all (goodB L) = true := by rw [List.all_eq_true]; intro j hj; exact h j (by simp at hj; omega)
  have h3 : (L.all fun s => !(hasAroundS (ofList L) s || leadsS (ofList L) s)) = true := by
    rw [List.all_eq_true]; intro s hs
    obtain ⟨j, hj, rfl⟩ := List.getElem_of_mem hs
    rw [h2 j _ (by omega) (List.getElem?_eq_getElem hj)]; rfl
  rw [h1, h3]; simp; omega
/-- what lies behind the first loop of ValidRegion -/
structure RegI (w : World) (g : Nat) (b : Nat → Nat) (C : List Sq) (X : World) : Prop where
  cov : Cov X b C
  box : X.heap[g]? = some (.cells (covA b) 54)
  bel : Below w.heap.size w X
theorem RegI.step {w : World} {g : Nat} {b : Nat → Nat} {C : List Sq} {X Y : World} (h : RegI w g b C X) (h2 : Below X.heap.size X Y) : RegI w g b C Y :=
  ⟨h.cov.below h2, (h2.block _ (Array.getElem?_eq_some_iff.1 h.box).1).trans h.box, h.bel.trans (h2.mono h.bel.size)⟩
set_option maxHeartbeats 20000000 in
theorem ValidRegion_any (v : Value) (L : List Sq) (w : World) (hv : SqSl w w.heap.size v L) (hn : L.length ≤ 1000000) :
    Calls Tryz.prog 12 #[v] w fun e w' => e = .returned (.bool (regB L)) ∧ Below w.heap.size w w' := by
  obtain ⟨A, c, rfl, hA⟩ := hv
  have HA := Lib.hid hA
  have HCo := Lib.hid (fun (w1 : World) (hb : Below w.heap.size w w1) (hok : ∀ s ∈ L, s.okB = true) => coverOf_any (.slice A L.length c) L w1 ⟨A, c, rfl, (hA.below hb).mono hb.size⟩ hok hn)
  have HN := Lib.hid (show regB L = (decide (L.length ≤ 4096) && (List.range L.length).all (goodB L) && L.all fun s => !(hasAroundS (ofList L) s || leadsS (ofList L) s)) from rfl)
  clear hA
  generalize hL : L.length = n at *
  have HL := Lib.hid hL
  clear hL
  go_enter Tryz.func12, Tryz.ntmps12
  by_cases hbig : n ≤ 4096
  · go_wp2_with fail
    go_loopw [13] (fun k wr => ∃ i : Nat, k = .int .i64 (i : Int) ∧ i ≤ n ∧ (∀ j, j < i → goodB L j = true) ∧ Below w.heap.size w wr) (fun k _ => n - (intOf k).toNat)
    case atStart => exact ⟨0, rfl, Nat.zero_le _, fun j hj => absurd hj (by omega), Below.refl _ _⟩
    case round =>
      obtain ⟨i, rfl, hin, hgood, hbel⟩ := hrel
      have HG := Lib.hid hgood
      have HB := Lib.hid hbel
      clear hgood hbel
      by_cases hlt : i < n
      · obtain ⟨s, ad, hs, hm, rfl, hb, h1, h2, h3⟩ := (HA.out.below HB.out).at_ HL.out hlt
        have HV := Lib.hid (fun w => ValidSquare_any s.l s.x s.y w)
        have HSi := Lib.hid hs
        have hwr := HB.out.size
        have tt := sq_cells (s := s) (World.alloc_heap_new wr (.cells #[.int .i64 s.l, .int .i64 s.x, .int .i64 s.y] 31))
        have ss := fun p => (⟨Wb.cell tt.1 p, Wb.cell tt.2.1 p, Wb.cell tt.2.2 p⟩ : _ ∧ _ ∧ _)
        by_cases h0 : (0 : Int) < (i : Int)
        · obtain ⟨p, adp, hp, hpm, e, hpb, g1, g2, g3⟩ := (HA.out.below HB.out).at_ HL.out (show i - 1 < n by omega)
          injection e with e
          subst e
          have HS := Lib.hid (show goodB L i = (Sq.okB ⟨s.l, s.x, s.y⟩ && aheadB p s) from good_pos hs hp (by omega))
          have HC := Lib.hid (show ∀ w, Calls Tryz.prog 46 #[.agg #[.int .i64 p.l, .int .i64 p.x, .int .i64 p.y], .agg #[.int .i64 s.l, .int .i64 s.x, .int .i64 s.y]] w fun e w' => e = .returned (.int .i64 (cmpS p s)) ∧ Below w.heap.size w w' from
            fun w => (order_lays p s w).mono fun e w' ⟨he, q, os, hw⟩ => ⟨he, hw ▸ ((below_drewN (Below.refl _ _) q).trans ((grow_below (w.drewN q) os).mono (Nat.le_refl _)))⟩)
          have HCl := cmp_lt p s
          have hpb2 : (ad.add ((i - 1) * 3)).block < wr.heap.size := by rw [add_block]; omega
          have hnb := below_new (w := wr) (.cells #[.int .i64 s.l, .int .i64 s.x, .int .i64 s.y] 31)
          have gg := fun p => (⟨Wb.cell ((hnb.cell (by exact hpb2)).trans g1) p, Wb.cell ((hnb.cell (by exact hpb2)).trans g2) p, Wb.cell ((hnb.cell (by exact hpb2)).trans g3) p⟩ : _ ∧ _ ∧ _)
          generalize Sq.okB ⟨s.l, s.x, s.y⟩ = v0 at *
          have hwr1 : IntKind.i64.wrap ((i : Int) - 1) = ((i - 1 : Nat) : Int) := by
            rw [IntKind.wrap_i64]; omega
          have hlt1 : i - 1 < n := by omega
          have h0' : 0 < i := by omega
          clear hs hm hp hpm hpb2 hnb
          cases v0
          · clear HCl
            go_wp2_with fail
            refine wp_region_wb (by kernel_rfl) (by kernel_rfl) ?_; (repeat ((with_reducible refine wpQuiet_step ?_); intro K hK; go_simp; (try (refine ite_neg_of (by simp [undef]) ?_)); first | (with_reducible refine hK _ ?_; clear hK K) | (apply Exists.intro; (with_reducible refine ⟨fun _ => ?_, hK _ ?_⟩); (first | (go_at_call 38; exact Calls.wb (HV.out _))); clear hK K))); (with_reducible refine wpQuiet_nil ?_); rintro w1 ⟨⟨_, hb1⟩, rfl⟩; (try dsimp only)
            go_wp2_with fail
            go_ret
            exact ⟨ret_b (by rw [reg_bad HL.out hlt HS.out]), HB.out.trans ((below_new _ |>.trans (hb1.mono (by simp))).mono HB.out.size)⟩
          · generalize cmpS p s = z at *
            generalize aheadB p s = v1 at *
            by_cases hz : 0 ≤ z
            · have : v1 = false := by cases v1 <;> simp at HCl ⊢; omega
              subst this
              clear HCl
              go_wp2_with fail
              refine wp_region_wb (by kernel_rfl) (by kernel_rfl) ?_; (repeat ((with_reducible refine wpQuiet_step ?_); intro K hK; go_simp; (try (refine ite_neg_of (by simp [undef]) ?_)); first | (with_reducible refine hK _ ?_; clear hK K) | (apply Exists.intro; (with_reducible refine ⟨fun _ => ?_, hK _ ?_⟩); (first | (go_at_call 38; exact Calls.wb (HV.out _)) | (go_at_call 46; exact Calls.wb (HC.out _))); clear hK K))); (with_reducible refine wpQuiet_nil ?_); rintro w1 ⟨⟨_, hb1⟩, rfl⟩; (try dsimp only)
              go_wp2_with fail
              go_ret
              exact ⟨ret_b (by rw [reg_bad HL.out hlt HS.out]), HB.out.trans ((below_new _ |>.trans (hb1.mono (by simp))).mono HB.out.size)⟩
            · have : v1 = true := by cases v1 <;> simp at HCl ⊢; omega
              subst this
              clear HCl
              go_wp2_with fail
              refine wp_region_wb (by kernel_rfl) (by kernel_rfl) ?_; (repeat ((with_reducible refine wpQuiet_step ?_); intro K hK; go_simp; (try (refine ite_neg_of (by simp [undef]) ?_)); first | (with_reducible refine hK _ ?_; clear hK K) | (apply Exists.intro; (with_reducible refine ⟨fun _ => ?_, hK _ ?_⟩); (first | (go_at_call 38; exact Calls.wb (HV.out _)) | (go_at_call 46; exact Calls.wb (HC.out _))); clear hK K))); (with_reducible refine wpQuiet_nil ?_); rintro w1 ⟨⟨_, hb1⟩, rfl⟩; (try dsimp only)
              go_wp2_with fail
              have H2 := Lib.hid (show (∀ j, j < i + 1 → goodB L j = true) ∧ Below w.heap.size w w1 from
                ⟨fun j hj => (by by_cases e : j = i
                                 · rw [e]; exact HS.out
                                 · exact HG.out j (by omega)), HB.out.trans ((below_new _ |>.trans (hb1.mono (by simp))).mono HB.out.size)⟩)
              go_roundw
              case rel => exact ⟨i + 1, by go_num, by omega, H2.out⟩
              case measure => simp [intOf]; omega
        · have HS := Lib.hid (show goodB L i = Sq.okB ⟨s.l, s.x, s.y⟩ from good_zero hs (by omega))
          have h0' : ¬ (0 < i) := by omega
          generalize Sq.okB ⟨s.l, s.x, s.y⟩ = v0 at *
          clear hs hm
          cases v0
          · go_wp2_with fail
            refine wp_region_wb (by kernel_rfl) (by kernel_rfl) ?_; (repeat ((with_reducible refine wpQuiet_step ?_); intro K hK; go_simp; (try (refine ite_neg_of (by simp [undef]) ?_)); first | (with_reducible refine hK _ ?_; clear hK K) | (apply Exists.intro; (with_reducible refine ⟨fun _ => ?_, hK _ ?_⟩); (first | (go_at_call 38; exact Calls.wb (HV.out _))); clear hK K))); (with_reducible refine wpQuiet_nil ?_); rintro w1 ⟨⟨_, hb1⟩, rfl⟩; (try dsimp only)
            go_wp2_with fail
            go_ret
            exact ⟨ret_b (by rw [reg_bad HL.out hlt HS.out]), HB.out.trans ((below_new _ |>.trans (hb1.mono (by simp))).mono HB.out.size)⟩
          · go_wp2_with fail
            refine wp_region_wb (by kernel_rfl) (by kernel_rfl) ?_; (repeat ((with_reducible refine wpQuiet_step ?_); intro K hK; go_simp; (try (refine ite_neg_of (by simp [undef]) ?_)); first | (with_reducible refine hK _ ?_; clear hK K) | (apply Exists.intro; (with_reducible refine ⟨fun _ => ?_, hK _ ?_⟩); (first | (go_at_call 38; exact Calls.wb (HV.out _))); clear hK K))); (with_reducible refine wpQuiet_nil ?_); rintro w1 ⟨⟨_, hb1⟩, rfl⟩; (try dsimp only)
            go_wp2_with fail
            have H2 := Lib.hid (show (∀ j, j < i + 1 → goodB L j = true) ∧ Below w.heap.size w w1 from
              ⟨fun j hj => (by by_cases e : j = i
                               · rw [e]; exact HS.out
                               · exact HG.out j (by omega)), HB.out.trans ((below_new _ |>.trans (hb1.mono (by simp))).mono HB.out.size)⟩)
            go_roundw
            case rel => exact ⟨i + 1, by go_num, by omega, H2.out⟩
            case measure => simp [intOf]; omega
      · have HAll := Lib.hid (show ∀ j, j < n → goodB L j = true from fun j hj => HG.out j (by omega))
        have HOk := Lib.hid (good_ok HL.out HAll.out)
        go_wp2_with fail
        refine (HCo.out wr HB.out HOk.out).mono ?_
        rintro e w1 ⟨b, rfl, hbge, hcov, hb1⟩
        have H0 := Lib.hid (show RegI w w1.heap.size b (ofList L) (w1.alloc (.cells (covA b) 54)) from
          ⟨hcov.below (below_new _), World.alloc_heap_new w1 _, (HB.out.trans (hb1.mono HB.out.size)).trans ((below_new _).mono (Nat.le_trans HB.out.size hb1.size))⟩)
        clear hbge hcov hb1
        unfold covA
        go_wp2_with fail
        change Code.wp _ _ _ _ (w1.alloc (.cells (covA b) 54))
        generalize w1.alloc (.cells (covA b) 54) = w0 at *
        generalize w1.heap.size = g at *
        clear HCo HG HB
        go_loopw [40] (fun k wr => ∃ i : Nat, k = .int .i64 (i : Int) ∧ i ≤ n ∧ (∀ j s, j < i → L[j]? = some s → (hasAroundS (ofList L) s || leadsS (ofList L) s) = false) ∧ RegI w g b (ofList L) wr) (fun k _ => n - (intOf k).toNat)
        case atStart => exact ⟨0, rfl, Nat.zero_le _, fun j s hj => absurd hj (by omega), H0.out⟩
        case round =>
          obtain ⟨i, rfl, hin, hgood, hR⟩ := hrel
          have HG := Lib.hid hgood
          have HR := Lib.hid hR
          obtain ⟨q0, q1, q2, q3, q4, q5, q6, q7, q8, q9, q10⟩ := cov_cells hR.box
          have hsz1 : g < wr.heap.size := (Array.getElem?_eq_some_iff.1 hR.box).1
          clear hgood hR
          by_cases hlt : i < n
          · obtain ⟨s, ad, hs, hm, rfl, hb, h1, h2, h3⟩ := (HA.out.below HR.out.bel).at_ HL.out hlt
            have HOs := Lib.hid (HOk.out s hm)
            have HSi := Lib.hid hs
            have HM := Lib.hid hm
            have HR1 := Lib.hid (HR.out.step (below_new (.cells #[.int .i64 s.l, .int .i64 s.x, .int .i64 s.y] 31)))
            have HX := Lib.hid (hasAround_any b s (ofList L) _ HR1.out.cov HOs.out)
            have HBad := Lib.hid (fun h => reg_bad2 (L := L) hm h)
            clear hs hm
            cases hh : hasAroundS (ofList L) s
            · rw [hh] at HX HBad
              have HG' := Lib.hid (show leadsS (ofList L) s = false → ∀ j t, j < i + 1 → L[j]? = some t → (hasAroundS (ofList L) t || leadsS (ofList L) t) = false from fun hl j t hj ht => by
                by_cases e : j = i
                · subst e; have := HSi.out; rw [ht] at this; cases this; rw [hh, hl]; rfl
                · exact HG.out j t (by omega) ht)
              clear hh
              go_wp2_with fail
              refine HX.out.mono ?_
              rintro e w2 ⟨rfl, hb2⟩
              have hzz : (wr.alloc (.cells #[.int .i64 s.l, .int .i64 s.x, .int .i64 s.y] 31)).heap.size = wr.heap.size + 1 := by simp
              have hs2 : wr.heap.size + 1 ≤ w2.heap.size := by have := hb2.size; omega
              have HR2 := Lib.hid (HR1.out.step hb2)
              obtain ⟨q0, q1, q2, q3, q4, q5, q6, q7, q8, q9, q10⟩ := cov_cells HR2.out.box
              obtain ⟨s0, s1, s2⟩ := sq_cells ((hb2.block wr.heap.size (by omega)).trans (World.alloc_heap_new wr _))
              have HY := Lib.hid (leads_any b s (ofList L) w2 HR2.out.cov HOs.out)
              clear hb2
              cases hl : leadsS (ofList L) s
              · rw [hl] at HY
                have HG2 := Lib.hid (HG'.out hl)
                clear hl
                go_wp2_with fail
                refine HY.out.mono ?_
                rintro e w3 ⟨rfl, hb3⟩
                have HR3 := Lib.hid (HR2.out.step hb3)
                clear hb3
                go_wp2_with fail
                go_roundw
                case rel => exact ⟨i + 1, by go_num, by omega, HG2.out, HR3.out⟩
                case measure => simp [intOf]; omega
              · rw [hl] at HY HBad
                clear hl
                go_wp2_with fail
                refine HY.out.mono ?_
                rintro e w3 ⟨rfl, hb3⟩
                have HR3 := Lib.hid (HR2.out.step hb3)
                clear hb3
                go_wp2_with fail
                go_ret
                exact ⟨ret_b (by rw [HBad.out rfl]), HR3.out.bel⟩
            · rw [hh] at HX HBad
              clear hh
              go_wp2_with fail
              refine HX.out.mono ?_
              rintro e w2 ⟨rfl, hb2⟩
              have HR2 := Lib.hid (HR1.out.step hb2)
              clear hb2
              go_wp2_with fail
              go_ret
              exact ⟨ret_b (by rw [HBad.out rfl]), HR2.out.bel⟩
          · have ei : i = n := by omega
            have HT := Lib.hid (reg_good HL.out hbig HAll.out (by rw [← ei]; exact HG.out))
            go_wp2_with fail
            go_ret
            exact ⟨ret_b (by rw [HT.out]), HR.out.bel⟩
  · go_wp2_with fail
    go_ret
    exact ⟨ret_b (by rw [HN.out]; simp [hbig]), Below.refl _ _⟩
end Go.Proofs.YtabolonlkocopaaGreatDoor
