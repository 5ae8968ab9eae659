
/- What the calendar, squares and regions answer (as in layer 1). -/
import Derived.Test.YtijidcigfdblaaaGreatDoorShPa
import Derived.Maps.AppendAt
import Derived.RangeFuncNested
import Derived.RangeFuncBound
import Derived.RangeFuncCalls
import Derived.RangeFuncLeaves
import Derived.WalkKit
import Derived.OwnWalkIn
import Derived.TacticsInMore
import Derived.LoopNIn
import Derived.LoopIn
import Derived.Maps.OwnIn
import Derived.RangeFuncBox
import Derived.RangeFuncRecord
namespace Go.Proofs.YtijidcigfdblaaaGreatDoor
open Go.RowKit Go.Plc Go.Sort

def encS (s : Sq) : List Value := [.int .i64 s.l, .int .i64 s.x, .int .i64 s.y]
instance : Inhabited Sq := ⟨⟨0, 0, 0⟩⟩
def cellsOf (L : List Sq) : List Value := L.flatMap encS
theorem cellsOf_get : ∀ (P : List Sq) (i : Nat) (s : Sq), P[i]? = some s → (cellsOf P)[i * 3]? = some (.int .i64 s.l) ∧ (cellsOf P)[i * 3 + 1]? = some (.int .i64 s.x) ∧ (cellsOf P)[i * 3 + 2]? = some (.int .i64 s.y)
  | [], _, _, h => by simp at h
  | t :: r, 0, s, h => by
    simp at h; subst h
    exact ⟨rfl, rfl, rfl⟩
  | t :: r, i + 1, s, h => by
    have ih := cellsOf_get r i s (by simpa using h)
    have e : ∀ j, (cellsOf (t :: r))[j + 3]? = (cellsOf r)[j]? := fun j => rfl
    rw [show (i + 1) * 3 = i * 3 + 3 by omega, show i * 3 + 3 + 1 = i * 3 + 1 + 3 by omega, show i * 3 + 3 + 2 = i * 3 + 2 + 3 by omega, e, e, e]
    exact ih

end Go.Proofs.YtijidcigfdblaaaGreatDoor
namespace Go.Proofs.YtijidcigfdblaaaGreatDoor
open Go.RowKit Go.Plc

theorem RowAt.grown {w w' : World} {b : Nat} {L : List Sq} (h : RowAt w b L) {row : Option Nat} (hg : w.grownBy w' row) (hne : some b ≠ row) : RowAt w' b L := h.block (hg.block b h.lt hne)

end Go.Proofs.YtijidcigfdblaaaGreatDoor
namespace Go.Proofs.YtijidcigfdblaaaGreatDoor
open Go.RowKit

/-- all that lay from B on lies as it lay, but for the block ow -/
structure KA (B : Nat) (ow : Option Nat) (W W' : World) : Prop where
  size : W.heap.size ≤ W'.heap.size
  same : ∀ k o, B ≤ k → W.heap[k]? = some o → some k ≠ ow → W'.heap[k]? = some o
theorem KA.refl (B : Nat) (ow : Option Nat) (W : World) : KA B ow W W := ⟨Nat.le_refl _, fun _ _ _ h _ => h⟩
theorem KA.trans {B : Nat} {ow : Option Nat} {X Y Z : World} (h : KA B ow X Y) (k : KA B ow Y Z) : KA B ow X Z :=
  ⟨Nat.le_trans h.size k.size, fun i o hB hi hne => k.same i o hB (h.same i o hB hi hne) hne⟩
theorem KA.alloc (B : Nat) (ow : Option Nat) (W : World) (o : Obj) : KA B ow W (W.alloc o) :=
  ⟨by simp, fun k _ _ hk _ => (Below.heap_alloc W o k (Array.getElem?_eq_some_iff.1 hk).1).trans hk⟩
theorem KA.of_below {B : Nat} {ow : Option Nat} {W W' : World} (h : Below W.heap.size W W') : KA B ow W W' :=
  ⟨h.size, fun k _ _ hk _ => (h.block k (Array.getElem?_eq_some_iff.1 hk).1).trans hk⟩
end Go.Proofs.YtijidcigfdblaaaGreatDoor
namespace Go.Proofs.YtijidcigfdblaaaGreatDoor
open Go.RowKit Go.Plc

theorem SqA.of_block {w w' : World} {B g : Nat} {L : List Sq} (h : SqA w B (some ⟨g, 0, none⟩) L) (hg : w'.heap[g]? = w.heap[g]?) : SqA w' B (some ⟨g, 0, none⟩) L := by
  intro i s hs
  obtain ⟨ad, ha, hb, h1, h2, h3⟩ := h i s hs
  cases ha
  have e : ((⟨g, 0, none⟩ : Addr).add (i * 3)).block = g := add_block _ _
  exact ⟨_, rfl, hb, (World.cell?_of_block (w := w) (by rw [e]; exact hg)).trans h1, (World.cell?_of_block (w := w) (by show w'.heap[((⟨g, 0, none⟩ : Addr).add (i * 3)).block]? = w.heap[((⟨g, 0, none⟩ : Addr).add (i * 3)).block]?; rw [e]; exact hg)).trans h2, (World.cell?_of_block (w := w) (by show w'.heap[((⟨g, 0, none⟩ : Addr).add (i * 3)).block]? = w.heap[((⟨g, 0, none⟩ : Addr).add (i * 3)).block]?; rw [e]; exact hg)).trans h3⟩
end Go.Proofs.YtijidcigfdblaaaGreatDoor
namespace Go.Proofs.YtijidcigfdblaaaGreatDoor
open Go.RowKit Go.Plc
attribute [local go_sem] Oper.semAt_some

theorem Cov.grownB {W W' : World} {b : Nat → Nat} {C : List Sq} {row : Option Nat} {B : Nat} (h : Cov W b C) (hb : ∀ i, i < 11 → b i < B) (hg : W.grownBy W' row) (hr : ∀ r, row = some r → B ≤ r) : Cov W' b C :=
  ⟨fun i hi => (h.row i hi).grown hg (fun e => by have := hr _ e.symm; have := hb i hi; omega), h.inj, h.nd, h.ok⟩
theorem KA.set {B : Nat} {ow : Option Nat} (W : World) (b : Nat) (v : Value) (h : b < B) : KA B ow W (W.setCell ⟨b, 0, none⟩ v) :=
  ⟨by simp, fun k _ hk hko _ => (Below.heap_setCell _ _ _ k (by show k ≠ b; omega)).trans hko⟩
theorem KA.grown {B : Nat} {ow : Option Nat} {W W' : World} (h : W.grownBy W' ow) : KA B ow W W' := ⟨h.size, fun k _ _ hk hne => (h.block k (Array.getElem?_eq_some_iff.1 hk).1 hne).trans hk⟩
end Go.Proofs.YtijidcigfdblaaaGreatDoor
namespace Go.Proofs.YtijidcigfdblaaaGreatDoor
open Go.RowKit Go.Plc
attribute [local go_sem] Oper.semAt_some

theorem CBut.grown {b : Nat → Nat} {w X Y : World} {row : Option Nat} (h : CBut b w X) (hg : X.grownBy Y row) (hr : ∀ r, row = some r → w.heap.size ≤ r) : CBut b w Y :=
  ⟨hg.os.trans h.os, hg.tape.trans h.tape, hg.output.trans h.output, Nat.le_trans h.size hg.size, fun k hk hb => (hg.block k (Nat.lt_of_lt_of_le hk h.size) (fun e => by have := hr k e.symm; omega)).trans (h.block k hk hb)⟩
theorem CBut.ka {b : Nat → Nat} {X Y : World} {G : Nat} (h : CBut b X Y) (hb : ∀ i, i < 11 → b i < G) : KA G none X Y :=
  ⟨h.size, fun k _ hG hk _ => h.heap hk (fun i hi e => by have := hb i hi; omega)⟩
theorem KA.at_ {G : Nat} {X Y : World} (h : KA G none X Y) {k : Nat} {o : Obj} (hG : G ≤ k) (hk : X.heap[k]? = some o) : Y.heap[k]? = some o := h.same k o hG hk (by simp)
theorem KA.mono {G G' : Nat} {ow : Option Nat} {X Y : World} (h : KA G ow X Y) (hG : G ≤ G') : KA G' ow X Y := ⟨h.size, fun k o hk ho hne => h.same k o (Nat.le_trans hG hk) ho hne⟩
theorem leads_any (b : Nat → Nat) (s : Sq) (C : List Sq) (w : World) (h : Cov w b C) (hs : s.okB = true) :
    Calls Tryz.prog 182 #[.agg (covA b), sqv s] w fun e w' => e = .returned (.bool (leadsS C s)) ∧ Below w.heap.size w w' := by
  by_cases g1 : s.l < 10
  · by_cases g2 : s.x % 2 = 0
    · by_cases g3 : s.y % 2 = 0
      · exact leads_yes b s C w h hs g1 g2 g3
      · exact leads_no b s C w hs (.inr (.inr g3))
    · exact leads_no b s C w hs (.inr (.inl g2))
  · exact leads_no b s C w hs (.inl (by have := ((Sq.okB_iff s).1 hs).2.1; omega))
end Go.Proofs.YtijidcigfdblaaaGreatDoor
namespace Go.Proofs.YtijidcigfdblaaaGreatDoor
open Go.RowKit Go.Plc

def goodB (L : List Sq) (j : Nat) : Bool :=
  match L[j]? with
  | none => true
  | some s => s.okB && (decide (j = 0) || match L[j - 1]? with | none => true | some p => aheadB p s)
def regB (L : List Sq) : Bool := decide (L.length ≤ 4096) && (List.range L.length).all (goodB L) && L.all fun s => !(hasAroundS (ofList L) s || leadsS (ofList L) s)

theorem good_pos {L : List Sq} {i : Nat} {s p : Sq} (hs : L[i]? = some s) (hp : L[i - 1]? = some p) (h : 0 < i) : goodB L i = (s.okB && aheadB p s) := by
  have : decide (i = 0) = false := by simp; omega
  simp [goodB, hs, hp, this]
theorem good_zero {L : List Sq} {i : Nat} {s : Sq} (hs : L[i]? = some s) (h : i = 0) : goodB L i = s.okB := by subst h; simp [goodB, hs]
theorem reg_bad {L : List Sq} {i n : Nat} (hn : L.length = n) (hi : i < n) (h : goodB L i = false) : regB L = false := by
  have : (List.range L.length).all (goodB L) = false := by
    rw [List.all_eq_false]
    exact ⟨i, by simp [hn, hi], by simp [h]⟩
  unfold regB; rw [this]; simp
theorem reg_bad2 {L : List Sq} {s : Sq} (hs : s ∈ L) (h : (hasAroundS (ofList L) s || leadsS (ofList L) s) = true) : regB L = false := by
  have : (L.all fun s => !(hasAroundS (ofList L) s || leadsS (ofList L) s)) = false := by
    rw [List.all_eq_false]
    exact ⟨s, hs, by simp [h]⟩
  unfold regB; rw [this]; simp
theorem good_ok {L : List Sq} {n : Nat} (hn : L.length = n) (h : ∀ j, j < n → goodB L j = true) : ∀ s ∈ L, s.okB = true := by
  intro s hs
  obtain ⟨j, hj, rfl⟩ := List.getElem_of_mem hs
  have := h j (by omega)
  unfold goodB at this
  rw [List.getElem?_eq_getElem hj] at this
  simp at this
  exact this.1
theorem reg_good {L : List Sq} {n : Nat} (hn : L.length = n) (hb : n ≤ 4096) (h : ∀ j, j < n → goodB L j = true) (h2 : ∀ j s, j < n → L[j]? = some s → (hasAroundS (ofList L) s || leadsS (ofList L) s) = false) : regB L = true := by
  unfold regB
  have h1 : (List.range L.length).all (goodB L) = true := by rw [List.all_eq_true]; intro j hj; exact h j (by simp at hj; omega)
  have h3 : (L.all fun s => !(hasAroundS (ofList L) s || leadsS (ofList L) s)) = true := by
    rw [List.all_eq_true]; intro s hs
    obtain ⟨j, hj, rfl⟩ := List.getElem_of_mem hs
    rw [h2 j _ (by omega) (List.getElem?_eq_getElem hj)]; rfl
  rw [h1, h3]; simp; omega
/-- what lies behind the first loop of ValidRegion -/
structure RegI (w : World) (g : Nat) (b : Nat → Nat) (C : List Sq) (X : World) : Prop where
  cov : Cov X b C
  box : X.heap[g]? = some (.cells (covA b) 221)
  bel : Below w.heap.size w X
theorem RegI.step {w : World} {g : Nat} {b : Nat → Nat} {C : List Sq} {X Y : World} (h : RegI w g b C X) (h2 : Below X.heap.size X Y) : RegI w g b C Y :=
  ⟨h.cov.below h2, (h2.block _ (Array.getElem?_eq_some_iff.1 h.box).1).trans h.box, h.bel.trans (h2.mono h.bel.size)⟩
set_option maxHeartbeats 20000000 in
theorem ValidRegion_any (v : Value) (L : List Sq) (w : World) (hv : SqSl w w.heap.size v L) (hn : L.length ≤ 1000000) :
    Calls Tryz.prog 120 #[v] w fun e w' => e = .returned (.bool (regB L)) ∧ Below w.heap.size w w' := by
  obtain ⟨A, c, rfl, hA⟩ := hv
  have HA := Lib.hid hA
  have HCo := Lib.hid (fun (w1 : World) (hb : Below w.heap.size w w1) (hok : ∀ s ∈ L, s.okB = true) => coverOf_any (.slice A L.length c) L w1 ⟨A, c, rfl, (hA.below hb).mono hb.size⟩ hok hn)
  have HN := Lib.hid (show regB L = (decide (L.length ≤ 4096) && (List.range L.length).all (goodB L) && L.all fun s => !(hasAroundS (ofList L) s || leadsS (ofList L) s)) from rfl)
  clear hA
  generalize hL : L.length = n at *
  have HL := Lib.hid hL
  clear hL
  go_enter Tryz.func120, Tryz.ntmps120
  by_cases hbig : n ≤ 4096
  · go_wp2_with fail
    go_loopw [13] (fun k wr => ∃ i : Nat, k = .int .i64 (i : Int) ∧ i ≤ n ∧ (∀ j, j < i → goodB L j = true) ∧ Below w.heap.size w wr) (fun k _ => n - (intOf k).toNat)
    case atStart => exact ⟨0, rfl, Nat.zero_le _, fun j hj => absurd hj (by omega), Below.refl _ _⟩
    case round =>
      obtain ⟨i, rfl, hin, hgood, hbel⟩ := hrel
      have HG := Lib.hid hgood
      have HB := Lib.hid hbel
      clear hgood hbel
      by_cases hlt : i < n
      · obtain ⟨s, ad, hs, hm, rfl, hb, h1, h2, h3⟩ := (HA.out.below HB.out).at_ HL.out hlt
        have HV := Lib.hid (fun w => ValidSquare_any s.l s.x s.y w)
        have HSi := Lib.hid hs
        have hwr := HB.out.size
        have tt := sq_cells (s := s) (World.alloc_heap_new wr (.cells #[.int .i64 s.l, .int .i64 s.x, .int .i64 s.y] 23))
        have ss := fun p => (⟨Wb.cell tt.1 p, Wb.cell tt.2.1 p, Wb.cell tt.2.2 p⟩ : _ ∧ _ ∧ _)
        by_cases h0 : (0 : Int) < (i : Int)
        · obtain ⟨p, adp, hp, hpm, e, hpb, g1, g2, g3⟩ := (HA.out.below HB.out).at_ HL.out (show i - 1 < n by omega)
          injection e with e
          subst e
          have HS := Lib.hid (show goodB L i = (Sq.okB ⟨s.l, s.x, s.y⟩ && aheadB p s) from good_pos hs hp (by omega))
          have HC := Lib.hid (show ∀ w, Calls Tryz.prog 179 #[.agg #[.int .i64 p.l, .int .i64 p.x, .int .i64 p.y], .agg #[.int .i64 s.l, .int .i64 s.x, .int .i64 s.y]] w fun e w' => e = .returned (.int .i64 (cmpS p s)) ∧ Below w.heap.size w w' from
            fun w => (order_lays p s w).mono fun e w' ⟨he, q, os, hw⟩ => ⟨he, hw ▸ ((below_drewN (Below.refl _ _) q).trans ((grow_below (w.drewN q) os).mono (Nat.le_refl _)))⟩)
          have HCl := cmp_lt p s
          have hpb2 : (ad.add ((i - 1) * 3)).block < wr.heap.size := by rw [add_block]; omega
          have hnb := below_new (w := wr) (.cells #[.int .i64 s.l, .int .i64 s.x, .int .i64 s.y] 23)
          have gg := fun p => (⟨Wb.cell ((hnb.cell (by exact hpb2)).trans g1) p, Wb.cell ((hnb.cell (by exact hpb2)).trans g2) p, Wb.cell ((hnb.cell (by exact hpb2)).trans g3) p⟩ : _ ∧ _ ∧ _)
          generalize Sq.okB ⟨s.l, s.x, s.y⟩ = v0 at *
          have hwr1 : IntKind.i64.wrap ((i : Int) - 1) = ((i - 1 : Nat) : Int) := by
            rw [IntKind.wrap_i64]; omega
          have hlt1 : i - 1 < n := by omega
          have h0' : 0 < i := by omega
          clear hs hm hp hpm hpb2 hnb
          cases v0
          · clear HCl
            go_wp2_with fail
            refine wp_region_wb (by kernel_rfl) (by kernel_rfl) ?_; (repeat ((with_reducible refine wpQuiet_step ?_); intro K hK; go_simp; (try (refine ite_neg_of (by simp [undef]) ?_)); first | (with_reducible refine hK _ ?_; clear hK K) | (apply Exists.intro; (with_reducible refine ⟨fun _ => ?_, hK _ ?_⟩); (first | (go_at_call 138; exact Calls.wb (HV.out _))); clear hK K))); (with_reducible refine wpQuiet_nil ?_); rintro w1 ⟨⟨_, hb1⟩, rfl⟩; (try dsimp only)
            go_wp2_with fail
            go_ret
            exact ⟨ret_b (by rw [reg_bad HL.out hlt HS.out]), HB.out.trans ((below_new _ |>.trans (hb1.mono (by simp))).mono HB.out.size)⟩
          · generalize cmpS p s = z at *
            generalize aheadB p s = v1 at *
            by_cases hz : 0 ≤ z
            · have : v1 = false := by cases v1 <;> simp at HCl ⊢; omega
              subst this
              clear HCl
              go_wp2_with fail
              refine wp_region_wb (by kernel_rfl) (by kernel_rfl) ?_; (repeat ((with_reducible refine wpQuiet_step ?_); intro K hK; go_simp; (try (refine ite_neg_of (by simp [undef]) ?_)); first | (with_reducible refine hK _ ?_; clear hK K) | (apply Exists.intro; (with_reducible refine ⟨fun _ => ?_, hK _ ?_⟩); (first | (go_at_call 138; exact Calls.wb (HV.out _)) | (go_at_call 179; exact Calls.wb (HC.out _))); clear hK K))); (with_reducible refine wpQuiet_nil ?_); rintro w1 ⟨⟨_, hb1⟩, rfl⟩; (try dsimp only)
              go_wp2_with fail
              go_ret
              exact ⟨ret_b (by rw [reg_bad HL.out hlt HS.out]), HB.out.trans ((below_new _ |>.trans (hb1.mono (by simp))).mono HB.out.size)⟩
            · have : v1 = true := by cases v1 <;> simp at HCl ⊢; omega
              subst this
              clear HCl
              go_wp2_with fail
              refine wp_region_wb (by kernel_rfl) (by kernel_rfl) ?_; (repeat ((with_reducible refine wpQuiet_step ?_); intro K hK; go_simp; (try (refine ite_neg_of (by simp [undef]) ?_)); first | (with_reducible refine hK _ ?_; clear hK K) | (apply Exists.intro; (with_reducible refine ⟨fun _ => ?_, hK _ ?_⟩); (first | (go_at_call 138; exact Calls.wb (HV.out _)) | (go_at_call 179; exact Calls.wb (HC.out _))); clear hK K))); (with_reducible refine wpQuiet_nil ?_); rintro w1 ⟨⟨_, hb1⟩, rfl⟩; (try dsimp only)
              go_wp2_with fail
              have H2 := Lib.hid (show (∀ j, j < i + 1 → goodB L j = true) ∧ Below w.heap.size w w1 from
                ⟨fun j hj => (by by_cases e : j = i
                                 · rw [e]; exact HS.out
                                 · exact HG.out j (by omega)), HB.out.trans ((below_new _ |>.trans (hb1.mono (by simp))).mono HB.out.size)⟩)
              go_roundw
              case rel => exact ⟨i + 1, by go_num, by omega, H2.out⟩
              case measure => simp [intOf]; omega
        · have HS := Lib.hid (show goodB L i = Sq.okB ⟨s.l, s.x, s.y⟩ from good_zero hs (by omega))
          have h0' : ¬ (0 < i) := by omega
          generalize Sq.okB ⟨s.l, s.x, s.y⟩ = v0 at *
          clear hs hm
          cases v0
          · go_wp2_with fail
            refine wp_region_wb (by kernel_rfl) (by kernel_rfl) ?_; (repeat ((with_reducible refine wpQuiet_step ?_); intro K hK; go_simp; (try (refine ite_neg_of (by simp [undef]) ?_)); first | (with_reducible refine hK _ ?_; clear hK K) | (apply Exists.intro; (with_reducible refine ⟨fun _ => ?_, hK _ ?_⟩); (first | (go_at_call 138; exact Calls.wb (HV.out _))); clear hK K))); (with_reducible refine wpQuiet_nil ?_); rintro w1 ⟨⟨_, hb1⟩, rfl⟩; (try dsimp only)
            go_wp2_with fail
            go_ret
            exact ⟨ret_b (by rw [reg_bad HL.out hlt HS.out]), HB.out.trans ((below_new _ |>.trans (hb1.mono (by simp))).mono HB.out.size)⟩
          · go_wp2_with fail
            refine wp_region_wb (by kernel_rfl) (by kernel_rfl) ?_; (repeat ((with_reducible refine wpQuiet_step ?_); intro K hK; go_simp; (try (refine ite_neg_of (by simp [undef]) ?_)); first | (with_reducible refine hK _ ?_; clear hK K) | (apply Exists.intro; (with_reducible refine ⟨fun _ => ?_, hK _ ?_⟩); (first | (go_at_call 138; exact Calls.wb (HV.out _))); clear hK K))); (with_reducible refine wpQuiet_nil ?_); rintro w1 ⟨⟨_, hb1⟩, rfl⟩; (try dsimp only)
            go_wp2_with fail
            have H2 := Lib.hid (show (∀ j, j < i + 1 → goodB L j = true) ∧ Below w.heap.size w w1 from
              ⟨fun j hj => (by by_cases e : j = i
                               · rw [e]; exact HS.out
                               · exact HG.out j (by omega)), HB.out.trans ((below_new _ |>.trans (hb1.mono (by simp))).mono HB.out.size)⟩)
            go_roundw
            case rel => exact ⟨i + 1, by go_num, by omega, H2.out⟩
            case measure => simp [intOf]; omega
      · have HAll := Lib.hid (show ∀ j, j < n → goodB L j = true from fun j hj => HG.out j (by omega))
        have HOk := Lib.hid (good_ok HL.out HAll.out)
        go_wp2_with fail
        refine (HCo.out wr HB.out HOk.out).mono ?_
        rintro e w1 ⟨b, rfl, hbge, hcov, hb1⟩
        have H0 := Lib.hid (show RegI w w1.heap.size b (ofList L) (w1.alloc (.cells (covA b) 221)) from
          ⟨hcov.below (below_new _), World.alloc_heap_new w1 _, (HB.out.trans (hb1.mono HB.out.size)).trans ((below_new _).mono (Nat.le_trans HB.out.size hb1.size))⟩)
        clear hbge hcov hb1
        unfold covA
        go_wp2_with fail
        change Code.wp _ _ _ _ (w1.alloc (.cells (covA b) 221))
        generalize w1.alloc (.cells (covA b) 221) = w0 at *
        generalize w1.heap.size = g at *
        clear HCo HG HB
        go_loopw [40] (fun k wr => ∃ i : Nat, k = .int .i64 (i : Int) ∧ i ≤ n ∧ (∀ j s, j < i → L[j]? = some s → (hasAroundS (ofList L) s || leadsS (ofList L) s) = false) ∧ RegI w g b (ofList L) wr) (fun k _ => n - (intOf k).toNat)
        case atStart => exact ⟨0, rfl, Nat.zero_le _, fun j s hj => absurd hj (by omega), H0.out⟩
        case round =>
          obtain ⟨i, rfl, hin, hgood, hR⟩ := hrel
          have HG := Lib.hid hgood
          have HR := Lib.hid hR
          obtain ⟨q0, q1, q2, q3, q4, q5, q6, q7, q8, q9, q10⟩ := cov_cells hR.box
          have hsz1 : g < wr.heap.size := (Array.getElem?_eq_some_iff.1 hR.box).1
          clear hgood hR
          by_cases hlt : i < n
          · obtain ⟨s, ad, hs, hm, rfl, hb, h1, h2, h3⟩ := (HA.out.below HR.out.bel).at_ HL.out hlt
            have HOs := Lib.hid (HOk.out s hm)
            have HSi := Lib.hid hs
            have HM := Lib.hid hm
            have HR1 := Lib.hid (HR.out.step (below_new (.cells #[.int .i64 s.l, .int .i64 s.x, .int .i64 s.y] 23)))
            have HX := Lib.hid (hasAround_any b s (ofList L) _ HR1.out.cov HOs.out)
            have HBad := Lib.hid (fun h => reg_bad2 (L := L) hm h)
            clear hs hm
            cases hh : hasAroundS (ofList L) s
            · rw [hh] at HX HBad
              have HG' := Lib.hid (show leadsS (ofList L) s = false → ∀ j t, j < i + 1 → L[j]? = some t → (hasAroundS (ofList L) t || leadsS (ofList L) t) = false from fun hl j t hj ht => by
                by_cases e : j = i
                · subst e; have := HSi.out; rw [ht] at this; cases this; rw [hh, hl]; rfl
                · exact HG.out j t (by omega) ht)
              clear hh
              go_wp2_with fail
              refine HX.out.mono ?_
              rintro e w2 ⟨rfl, hb2⟩
              have hzz : (wr.alloc (.cells #[.int .i64 s.l, .int .i64 s.x, .int .i64 s.y] 23)).heap.size = wr.heap.size + 1 := by simp
              have hs2 : wr.heap.size + 1 ≤ w2.heap.size := by have := hb2.size; omega
              have HR2 := Lib.hid (HR1.out.step hb2)
              obtain ⟨q0, q1, q2, q3, q4, q5, q6, q7, q8, q9, q10⟩ := cov_cells HR2.out.box
              obtain ⟨s0, s1, s2⟩ := sq_cells ((hb2.block wr.heap.size (by omega)).trans (World.alloc_heap_new wr _))
              have HY := Lib.hid (leads_any b s (ofList L) w2 HR2.out.cov HOs.out)
              clear hb2
              cases hl : leadsS (ofList L) s
              · rw [hl] at HY
                have HG2 := Lib.hid (HG'.out hl)
                clear hl
                go_wp2_with fail
                refine HY.out.mono ?_
                rintro e w3 ⟨rfl, hb3⟩
                have HR3 := Lib.hid (HR2.out.step hb3)
                clear hb3
                go_wp2_with fail
                go_roundw
                case rel => exact ⟨i + 1, by go_num, by omega, HG2.out, HR3.out⟩
                case measure => simp [intOf]; omega
              · rw [hl] at HY HBad
                clear hl
                go_wp2_with fail
                refine HY.out.mono ?_
                rintro e w3 ⟨rfl, hb3⟩
                have HR3 := Lib.hid (HR2.out.step hb3)
                clear hb3
                go_wp2_with fail
                go_ret
                exact ⟨ret_b (by rw [HBad.out rfl]), HR3.out.bel⟩
            · rw [hh] at HX HBad
              clear hh
              go_wp2_with fail
              refine HX.out.mono ?_
              rintro e w2 ⟨rfl, hb2⟩
              have HR2 := Lib.hid (HR1.out.step hb2)
              clear hb2
              go_wp2_with fail
              go_ret
              exact ⟨ret_b (by rw [HBad.out rfl]), HR2.out.bel⟩
          · have ei : i = n := by omega
            have HT := Lib.hid (reg_good HL.out hbig HAll.out (by rw [← ei]; exact HG.out))
            go_wp2_with fail
            go_ret
            exact ⟨ret_b (by rw [HT.out]), HR.out.bel⟩
  · go_wp2_with fail
    go_ret
    exact ⟨ret_b (by rw [HN.out]; simp [hbig]), Below.refl _ _⟩
end Go.Proofs.YtijidcigfdblaaaGreatDoor
namespace Go.Proofs.YtijidcigfdblaaaGreatDoor
open Go.RowKit Go.Plc

theorem cellsOf_at : ∀ (P : List Sq) (j : Nat) (u : Value), (cellsOf P)[j]? = some u → ∃ i s, P[i]? = some s ∧ (j = i * 3 ∧ u = .int .i64 s.l ∨ j = i * 3 + 1 ∧ u = .int .i64 s.x ∨ j = i * 3 + 2 ∧ u = .int .i64 s.y)
  | [], j, u, h => by simp [cellsOf] at h
  | s :: P, j, u, h => by
    have e : cellsOf (s :: P) = [.int .i64 s.l, .int .i64 s.x, .int .i64 s.y] ++ cellsOf P := rfl
    rw [e] at h
    by_cases h3 : j < 3
    · refine ⟨0, s, rfl, ?_⟩
      have : j = 0 ∨ j = 1 ∨ j = 2 := by omega
      rcases this with rfl | rfl | rfl <;> simp at h <;> simp [h]
    · rw [List.getElem?_append_right (by simp; omega)] at h
      obtain ⟨i, t, hi, ht⟩ := cellsOf_at P (j - 3) u (by simpa using h)
      refine ⟨i + 1, t, by simpa using hi, ?_⟩
      rcases ht with ⟨h, rfl⟩ | ⟨h, rfl⟩ | ⟨h, rfl⟩
      · exact .inl ⟨by omega, rfl⟩
      · exact .inr (.inl ⟨by omega, rfl⟩)
      · exact .inr (.inr ⟨by omega, rfl⟩)
end Go.Proofs.YtijidcigfdblaaaGreatDoor
namespace Go.Proofs.YtijidcigfdblaaaGreatDoor
open Go.RowKit Go.Plc

theorem SqA.cells_at {w : World} {B : Nat} {ad : Addr} {L : List Sq} (h : SqA w B (some ad) L) : ∀ j u, (cellsOf L)[j]? = some u → w.cell? (ad.add j) = some u := by
  intro j u hj
  obtain ⟨i, s, hs, hc⟩ := cellsOf_at L j u hj
  obtain ⟨ad', e, _, h1, h2, h3⟩ := h i s hs
  injection e with e
  subst e
  rcases hc with ⟨rfl, rfl⟩ | ⟨rfl, rfl⟩ | ⟨rfl, rfl⟩
  · exact h1
  · rw [← Addr.add_add]; exact h2
  · rw [← Addr.add_add]; exact h3

theorem reg_ok {L : List Sq} (h : regB L = true) : L.length ≤ 4096 ∧ ∀ s ∈ L, s.okB = true := by
  unfold regB at h
  simp only [Bool.and_eq_true, decide_eq_true_eq] at h
  refine ⟨h.1.1, good_ok rfl fun j hj => ?_⟩
  exact List.all_eq_true.1 h.1.2 j (by simpa using hj)

theorem Cov.map_at {w : World} {b : Nat → Nat} {C : List Sq} (h : Cov w b C) {i : Nat} (hi : i < 11) : ∃ o, w.heap[b i]? = some o ∧ ∀ cs t fr, o ≠ .cells cs t fr := by
  obtain ⟨es, ⟨es', clock, hb, _⟩, _⟩ := h.row i hi
  exact ⟨_, hb, fun _ _ _ e => by cases e⟩

end Go.Proofs.YtijidcigfdblaaaGreatDoor
namespace Go.Proofs.YtijidcigfdblaaaGreatDoor
open Go.RowKit Go.Plc

theorem rwithinP_any (n lo hi : Int) (w : World) :
    Calls Tryz.prog 176 #[.int .i64 n, .int .i64 lo, .int .i64 hi] w fun e w' => e = .returned (.bool (decide (lo ≤ n) && decide (n ≤ hi))) ∧ w = w' := by
  cases a1 : decide (lo ≤ n) <;> cases a2 : decide (n ≤ hi)
  all_goals
    go_enter Tryz.func176, Tryz.ntmps176
    go_wp2_with fail
    go_ret
    exact ⟨ret_b (by simp_all), rfl⟩

set_option maxHeartbeats 1000000 in
theorem rValidSquare_any (l x y : Int) (w : World) :
    Calls Tryz.prog 141 #[.agg #[.int .i64 l, .int .i64 x, .int .i64 y]] w fun e w' => e = .returned (.bool (Sq.okB ⟨l, x, y⟩)) ∧ Below w.heap.size w w' := by
  have HV := Lib.hid (Sq.okB_iff ⟨l, x, y⟩)
  have HW := Lib.hid (fun n lo hi w => rwithinP_any n lo hi w)
  by_cases hl : 0 ≤ l ∧ l ≤ 10
  · obtain ⟨h1, h2⟩ := hl
    obtain ⟨p1, p2⟩ := pow_bd l h1
    have HWl := Lib.hid (fun w => show Calls Tryz.prog 176 #[.int .i64 l, .int .i64 0, .int .i64 10] w fun e w' => e = .returned (.bool true) ∧ w = w' from by
      have h := rwithinP_any l 0 10 w
      rwa [show (decide (0 ≤ l) && decide (l ≤ 10)) = true by simp; omega] at h)
    cases cx : (decide (0 ≤ x) && decide (x ≤ 2 ^ (10 - l).toNat - 1))
    · have HWx := Lib.hid (fun w => show Calls Tryz.prog 176 #[.int .i64 x, .int .i64 0, .int .i64 (2 ^ (10 - l).toNat - 1)] w fun e w' => e = .returned (.bool false) ∧ w = w' from by
        have h := rwithinP_any x 0 (2 ^ (10 - l).toNat - 1) w
        rwa [cx] at h)
      have HC := Lib.hid cx
      clear cx
      go_enter Tryz.func141, Tryz.ntmps141
      go_wp2_with fail
      refine (HWl.out _).mono ?_
      rintro e w1 ⟨rfl, rfl⟩
      go_wp2_with fail
      refine (HWx.out _).mono ?_
      rintro e w1 ⟨rfl, rfl⟩
      go_wp2_with fail
      go_ret
      refine ⟨ret_b ?_, below_new _⟩
      rw [Bool.eq_iff_iff, HV.out]
      have h := HC.out
      simp at h ⊢
      unfold sideOf
      omega
    · have HWx := Lib.hid (fun w => show Calls Tryz.prog 176 #[.int .i64 x, .int .i64 0, .int .i64 (2 ^ (10 - l).toNat - 1)] w fun e w' => e = .returned (.bool true) ∧ w = w' from by
        have h := rwithinP_any x 0 (2 ^ (10 - l).toNat - 1) w
        rwa [cx] at h)
      have HC := Lib.hid cx
      clear cx
      go_enter Tryz.func141, Tryz.ntmps141
      go_wp2_with fail
      refine (HWl.out _).mono ?_
      rintro e w1 ⟨rfl, rfl⟩
      go_wp2_with fail
      refine (HWx.out _).mono ?_
      rintro e w1 ⟨rfl, rfl⟩
      go_wp2_with fail
      refine (HW.out y 0 _ _).mono ?_
      rintro e w1 ⟨rfl, rfl⟩
      go_wp2_with fail
      go_ret
      refine ⟨ret_b ?_, below_new _⟩
      rw [Bool.eq_iff_iff, HV.out]
      have h := HC.out
      simp at h ⊢
      unfold sideOf
      omega
  · have HF := Lib.hid (show Sq.okB ⟨l, x, y⟩ = false by
      cases h : Sq.okB ⟨l, x, y⟩
      · rfl
      · exact absurd (by have := HV.out.1 h; simp at this; omega) hl)
    have HWl := Lib.hid (fun w => show Calls Tryz.prog 176 #[.int .i64 l, .int .i64 0, .int .i64 10] w fun e w' => e = .returned (.bool false) ∧ w = w' from by
      have h := rwithinP_any l 0 10 w
      rwa [show (decide (0 ≤ l) && decide (l ≤ 10)) = false by rw [Bool.and_eq_false_iff]; simp; omega] at h)
    go_enter Tryz.func141, Tryz.ntmps141
    go_wp2_with fail
    refine (HWl.out _).mono ?_
    rintro e w1 ⟨rfl, rfl⟩
    go_wp2_with fail
    go_ret
    exact ⟨ret_b HF.out.symm, below_new _⟩

end Go.Proofs.YtijidcigfdblaaaGreatDoor
namespace Go.Proofs.YtijidcigfdblaaaGreatDoor
open Go.RowKit Go.Plc

theorem two_boxes {w X : World} {S Z : Obj} (h : Below ((w.alloc S).alloc Z).heap.size ((w.alloc S).alloc Z) X) : Below w.heap.size w X ∧ X.heap[w.heap.size]? = some S ∧ X.heap[w.heap.size + 1]? = some Z := by
  refine ⟨((below_new _).trans ((below_new _).mono (by simp))).trans (h.mono (by simp; omega)), ?_, ?_⟩
  · exact (h.block _ (by simp; omega)).trans ((Below.heap_alloc _ _ _ (by simp)).trans (World.alloc_heap_new w S))
  · have := World.alloc_heap_new (w.alloc S) Z
    rw [World.size_alloc] at this
    exact (h.block _ (by simp)).trans this
end Go.Proofs.YtijidcigfdblaaaGreatDoor
namespace Go.Proofs.YtijidcigfdblaaaGreatDoor
open Go.RowKit Go.Plc

set_option maxRecDepth 100000 in
set_option maxHeartbeats 2000000 in
theorem within_any (a b : Sq) (w : World) (ha : a.okB = true) (hb : b.okB = true) : Calls Tryz.prog 219 #[sqv a, sqv b] w fun e w' => e = .returned (.bool (withinS a b)) ∧ Below w.heap.size w w' := by
  obtain ⟨v1, v2, v3, v4, v5, v6⟩ := (Sq.okB_iff a).1 ha
  obtain ⟨u1, u2, u3, u4, u5, u6⟩ := (Sq.okB_iff b).1 hb
  have HO := Lib.hid (show withinS a b = (decide (a.l ≤ b.l) && decide (blurS a b.l = b)) from rfl)
  have tt := two_boxes (S := .cells #[.int .i64 a.l, .int .i64 a.x, .int .i64 a.y] 23) (Z := .cells #[.int .i64 b.l, .int .i64 b.x, .int .i64 b.y] 23) (Below.refl _ ((w.alloc (.cells #[.int .i64 a.l, .int .i64 a.x, .int .i64 a.y] 23)).alloc (.cells #[.int .i64 b.l, .int .i64 b.x, .int .i64 b.y] 23)))
  have ta := sq_cells tt.2.1
  have tb := sq_cells tt.2.2
  have TB := Lib.hid tt.1
  clear ha hb tt
  have ss := fun p => (⟨Wb.cell ta.1 p, Wb.cell ta.2.1 p, Wb.cell ta.2.2 p, Wb.cell tb.1 p, Wb.cell tb.2.1 p, Wb.cell tb.2.2 p⟩ : _ ∧ _ ∧ _ ∧ _ ∧ _ ∧ _)
  by_cases hle : a.l ≤ b.l
  · have HU := Lib.hid (fun w => blur_any a b.l w v1 hle u2)
    have e0 : (blurS a b.l).l = b.l := rfl
    unfold sqv at HU
    have HEq := Lib.hid (show blurS a b.l = b ↔ (blurS a b.l).x = b.x ∧ (blurS a b.l).y = b.y from ⟨fun h => by rw [h]; exact ⟨rfl, rfl⟩, fun h => Sq.ext3 e0 h.1 h.2⟩)
    rw [e0] at HU
    clear e0
    generalize (blurS a b.l).x = bx at *
    generalize (blurS a b.l).y = bY at *
    unfold sqv
    by_cases e1 : bx = b.x
    · by_cases e2 : bY = b.y
      · have HR := Lib.hid (show withinS a b = true by rw [HO.out]; simp [hle, HEq.out, e1, e2])
        subst e1; subst e2
        clear HEq HO
        go_enter Tryz.func219, Tryz.ntmps219
        go_wp2_with fail
        refine wp_region_wb (by kernel_rfl) (by kernel_rfl) ?_; (repeat ((with_reducible refine wpQuiet_step ?_); intro K hK; go_simp; (try (refine ite_neg_of (by simp [undef]) ?_)); first | (with_reducible refine hK _ ?_; clear hK K) | (apply Exists.intro; (with_reducible refine ⟨fun _ => ?_, hK _ ?_⟩); (first | (go_at_call 228; exact Calls.wb (HU.out _))); clear hK K))); (with_reducible refine wpQuiet_nil ?_); rintro w1 ⟨⟨_, hb1⟩, rfl⟩; (try dsimp only)
        go_wp2_with fail
        go_ret
        exact ⟨ret_b HR.out.symm, TB.out.trans (hb1.mono TB.out.size)⟩
      · have HR := Lib.hid (show withinS a b = false by rw [HO.out]; simp [HEq.out, e2])
        subst e1
        clear HEq HO
        go_enter Tryz.func219, Tryz.ntmps219
        go_wp2_with fail
        refine wp_region_wb (by kernel_rfl) (by kernel_rfl) ?_; (repeat ((with_reducible refine wpQuiet_step ?_); intro K hK; go_simp; (try (refine ite_neg_of (by simp [undef]) ?_)); first | (with_reducible refine hK _ ?_; clear hK K) | (apply Exists.intro; (with_reducible refine ⟨fun _ => ?_, hK _ ?_⟩); (first | (go_at_call 228; exact Calls.wb (HU.out _))); clear hK K))); (with_reducible refine wpQuiet_nil ?_); rintro w1 ⟨⟨_, hb1⟩, rfl⟩; (try dsimp only)
        go_wp2_with fail
        go_ret
        exact ⟨ret_b HR.out.symm, TB.out.trans (hb1.mono TB.out.size)⟩
    · have HR := Lib.hid (show withinS a b = false by rw [HO.out]; simp [HEq.out, e1])
      clear HEq HO
      go_enter Tryz.func219, Tryz.ntmps219
      go_wp2_with fail
      refine wp_region_wb (by kernel_rfl) (by kernel_rfl) ?_; (repeat ((with_reducible refine wpQuiet_step ?_); intro K hK; go_simp; (try (refine ite_neg_of (by simp [undef]) ?_)); first | (with_reducible refine hK _ ?_; clear hK K) | (apply Exists.intro; (with_reducible refine ⟨fun _ => ?_, hK _ ?_⟩); (first | (go_at_call 228; exact Calls.wb (HU.out _))); clear hK K))); (with_reducible refine wpQuiet_nil ?_); rintro w1 ⟨⟨_, hb1⟩, rfl⟩; (try dsimp only)
      go_wp2_with fail
      go_ret
      exact ⟨ret_b HR.out.symm, TB.out.trans (hb1.mono TB.out.size)⟩
  · have HR := Lib.hid (show withinS a b = false by rw [HO.out]; simp [hle])
    have hd : decide (a.l ≤ b.l) = false := by simpa using hle
    clear HO hle
    unfold sqv
    go_enter Tryz.func219, Tryz.ntmps219
    go_wp2_with fail
    refine wp_region_wb (by kernel_rfl) (by kernel_rfl) ?_; (repeat ((with_reducible refine wpQuiet_step ?_); intro K hK; go_simp; (try (refine ite_neg_of (by simp [undef]) ?_)); first | (with_reducible refine hK _ ?_; clear hK K) | (apply Exists.intro; (with_reducible refine ⟨fun _ => ?_, hK _ ?_⟩); (fail); clear hK K))); (with_reducible refine wpQuiet_nil ?_); rintro w1 ⟨⟨_, hb1⟩, rfl⟩; (try dsimp only)
    go_wp2_with fail
    go_ret
    exact ⟨ret_b HR.out.symm, TB.out.trans (hb1.mono TB.out.size)⟩

end Go.Proofs.YtijidcigfdblaaaGreatDoor
namespace Go.Proofs.YtijidcigfdblaaaGreatDoor
open Go.RowKit Go.Plc
attribute [local go_sem] Oper.semAt_some

theorem SqA.putD {w : World} {A : Option Addr} {R : List Sq} {D : Nat} {o o' : Obj} (h : SqA w w.heap.size A R) (ho : w.heap[D]? = some o) (hno : ∀ cs t fr, o ≠ .cells cs t fr) : SqA (w.putObj D o') (w.putObj D o').heap.size A R := by
  intro i s hs
  obtain ⟨ad, ha, hb, h1, h2, h3⟩ := h i s hs
  have key : ∀ p v, w.cell? p = some v → (w.putObj D o').cell? p = some v := fun p v hp => by
    have hne : p.block ≠ D := fun e => by
      unfold World.cell? at hp
      rw [e, ho] at hp
      cases o <;> simp at hp
      exact hno _ _ _ rfl
    exact (World.cell?_of_block (World.putObj_heap_other hne)).trans hp
  exact ⟨ad, ha, by simpa using hb, key _ _ h1, key _ _ h2, key _ _ h3⟩

end Go.Proofs.YtijidcigfdblaaaGreatDoor
namespace Go.Proofs.YtijidcigfdblaaaGreatDoor
open Go.RowKit Go.Plc

theorem MonthDays.keep {w w' : World} (h : MonthDays w) (hk : ∀ p : Addr, p.block < w.heap.size → w'.cell? p = w.cell? p) : MonthDays w' := by
  intro m hm
  have h0 := h m hm
  rw [hk _ (by
    rcases Nat.lt_or_ge 1 w.heap.size with hlt | hge
    · exact hlt
    · exfalso
      have : w.heap[1]? = none := Array.getElem?_eq_none hge
      simp [World.cell?, this] at h0), h0]
theorem MonthDays.below {w w' : World} (h : MonthDays w) (hb : Below w.heap.size w w') : MonthDays w' := h.keep fun _ hp => hb.cell hp
theorem MonthDays.alloc {w : World} (h : MonthDays w) (o : Obj) : MonthDays (w.alloc o) := h.keep fun p hp => World.cell?_alloc_lt w o p hp
theorem MonthDays.drew {w : World} (h : MonthDays w) : MonthDays w.drew := h

theorem MonthDays.drewN {w : World} (h : MonthDays w) (n : Nat) : MonthDays (w.drewN n) := h

set_option maxHeartbeats 400000 in
theorem ValidDate_any (y m d : Int) (w : World) (hM : MonthDays w) :
    Calls Tryz.prog 225 #[.agg #[.int .i64 y, .int .i64 m, .int .i64 d]] w fun e w' => e = .returned (.bool (vdate y m d)) ∧ Below w.heap.size w w' := by
  have HV := Lib.hid (vdate_iff y m d)
  by_cases hy : 0 ≤ y ∧ y ≤ 273 ∧ 1 ≤ m ∧ m ≤ 12
  · obtain ⟨h1, h2, h3, h4⟩ := hy
    have HC := fun w hM => (daysOfMonth_any y m w hM h1 (by omega) h3 h4)
    have hM' := Lib.hid hM
    clear hM
    by_cases hd : 1 ≤ d
    · go_enter Tryz.func225, Tryz.ntmps225
      go_wp2_with fail
      go_quiet ((go_at_call 251; exact quiet_l (HC _ ((hM'.out.alloc _).drewN _))))
      go_wp2_with fail
      go_ret
      exact ⟨ret_b (by rw [Bool.eq_iff_iff, HV.out]; simp; omega), below_drewN (below_new _) _⟩
    · have hd' : decide (1 ≤ d) = false := by simpa using hd
      go_enter Tryz.func225, Tryz.ntmps225
      go_wp2_with fail
      go_quiet (fail)
      go_wp2_with fail
      go_ret
      exact ⟨ret_b (by rw [Bool.eq_iff_iff, HV.out]; simp; omega), below_drewN (below_new _) _⟩
  · have HF := Lib.hid (show vdate y m d = false by
      cases h : vdate y m d
      · rfl
      · exact absurd (by have := HV.out.1 h; omega) hy)
    go_enter Tryz.func225, Tryz.ntmps225
    go_wp2_with fail
    all_goals go_outline
    all_goals (try go_ret)
    all_goals exact ⟨ret_b (by rw [HF.out]), below_new _⟩
end Go.Proofs.YtijidcigfdblaaaGreatDoor
namespace Go.Proofs.YtijidcigfdblaaaGreatDoor
open Go.RowKit Go.Plc

/-! the date of a night -/
theorem validNight_any (n : Int) (w : World) : Calls Tryz.prog 220 #[.int .i64 n] w fun e w' => e = .returned (.bool (decide (0 ≤ n) && decide (n ≤ 99999))) ∧ w = w' := by
  cases h1 : decide (0 ≤ n) <;> cases h2 : decide (n ≤ 99999)
  all_goals
    go_enter Tryz.func220, Tryz.ntmps220
    go_wp2_with fail
    go_ret
    exact ⟨ret_b (by simp_all), rfl⟩

/-- what is returned for a night: the one date -/
def DateIs (n : Int) (w : World) (e : Ending) (w' : World) : Prop :=
  ∃ y m d, e = .returned (.agg #[.int .i64 y, .int .i64 m, .int .i64 d]) ∧ vdate y m d = true ∧ num y m d = n ∧ Below w.heap.size w w'

theorem year_bd {n y : Int} (h0 : 0 ≤ y) (h : dby y ≤ n) (hn : n ≤ 100000) : y ≤ 273 := by
  rcases Int.lt_or_le y 274 with h' | h'
  · omega
  · have := dby_mono h'
    have e : dby 274 = 100077 := by decide
    omega

set_option maxHeartbeats 400000 in
theorem dateBehind_any (n : Int) (w : World) (hM : MonthDays w) (h0 : 0 ≤ n) (h1 : n ≤ 100000) :
    Calls Tryz.prog 221 #[.int .i64 n] w (DateIs n w) := by
  go_enter Tryz.func221, Tryz.ntmps221
  go_wp2_with fail
  have hM' := Lib.hid (hM.alloc (.cells #[.int .i64 0, .int .i64 0, .int .i64 0] 216))
  clear hM
  go_loop [0, 3] (fun t k => ∃ y : Int, 0 ≤ y ∧ dby y ≤ n ∧ k = .int .i64 y ∧ t = .int .i64 (n - dby y)) (fun t _ => (intOf t).toNat)
  case atStart => exact ⟨0, by omega, by rw [dby_zero]; omega, rfl, by rw [dby_zero]; simp⟩
  case round =>
    obtain ⟨y, hy0, hy1, rfl, rfl⟩ := hrel
    have hy2 := year_bd hy0 hy1 h1
    have hbd := dby_bd hy0 (by omega)
    have hc := doy_cases y
    have hc' : 365 ≤ doy y ∧ doy y ≤ 366 := by omega
    clear hc
    by_cases hlt : doy y ≤ n - dby y
    · have hs := Lib.hid (dby_succ y)
      go_wp2_with (go_at_call 250; refine (daysOfYear_any _ _ (by omega) (by omega)).mono ?_; rintro e w' ⟨rfl, rfl⟩)
      go_round
      case rel => exact ⟨y + 1, by omega, by rw [hs.out]; omega, rfl, by rw [hs.out]; go_num⟩
      case measure => simp [intOf]; omega
    · go_wp2_with (go_at_call 250; refine (daysOfYear_any _ _ (by omega) (by omega)).mono ?_; rintro e w' ⟨rfl, rfl⟩)
      go_loop [0, 4] (fun t k => ∃ m : Int, 1 ≤ m ∧ m ≤ 12 ∧ dby y + cum y m ≤ n ∧ k = .int .i64 m ∧ t = .int .i64 (n - dby y - cum y m)) (fun t _ => (intOf t).toNat)
      case atStart => exact ⟨1, by omega, by omega, by rw [cum_one]; omega, rfl, by rw [cum_one]; simp⟩
      case round =>
        obtain ⟨m, hm0, hm1, hm2, rfl, rfl⟩ := hrel
        have hdm := dom_bd y m
        have hcl := cum_le y m
        by_cases hlt2 : dom y m ≤ n - dby y - cum y m
        · have hcs := Lib.hid (cum_succ y m hm0 hm1)
          have hm3 : m < 12 := by
            rcases Int.lt_or_le m 12 with h | h
            · exact h
            · exfalso
              have e : m = 12 := by omega
              subst e
              have h13 := cum_13 y
              have := hcs.out
              rw [show (12 : Int) + 1 = 13 by rfl, h13] at this
              omega
          go_wp2_with (go_at_call 251; refine (daysOfMonth_any _ _ _ hM'.out (by omega) (by omega) (by omega) (by omega)).mono ?_; rintro e w' ⟨rfl, rfl⟩)
          go_round
          case rel => exact ⟨m + 1, by omega, by omega, by rw [hcs.out]; omega, rfl, by rw [hcs.out]; go_num⟩
          case measure => simp [intOf]; omega
        · go_wp2_with (go_at_call 251; refine (daysOfMonth_any _ _ _ hM'.out (by omega) (by omega) (by omega) (by omega)).mono ?_; rintro e w' ⟨rfl, rfl⟩)
          refine bodyPost_ret (v := .agg #[.int .i64 y, .int .i64 m, .int .i64 (n - dby y - cum y m + 1)]) (by simp [results, Tryz.results221, go_sem]) rfl ⟨y, m, _, rfl, ?_, ?_, ?_⟩
          · exact (vdate_iff _ _ _).2 ⟨hy0, hy2, hm0, hm1, by omega, by omega⟩
          · unfold num; omega
          · exact below_new _
end Go.Proofs.YtijidcigfdblaaaGreatDoor
namespace Go.Proofs.YtijidcigfdblaaaGreatDoor
open Go.RowKit Go.Plc

def sqO (s : Sq) : Obj := .cells #[.int .i64 s.l, .int .i64 s.x, .int .i64 s.y] 23
end Go.Proofs.YtijidcigfdblaaaGreatDoor
namespace Go.Proofs.YtijidcigfdblaaaGreatDoor
open Go.RowKit Go.Plc

theorem cell_ne_map {w : World} {b : Nat → Nat} {C : List Sq} (h : Cov w b C) {p : Addr} {v : Value} (hc : w.cell? p = some v) : ∀ i, i < 11 → p.block ≠ b i := by
  intro i hi e
  obtain ⟨o, ho, hno⟩ := h.map_at hi
  unfold World.cell? at hc
  rw [e, ho] at hc
  cases o with
  | cells cs t fr => exact hno cs t fr rfl
  | _ => simp at hc
theorem SqA.cbut {w w' : World} {b : Nat → Nat} {C : List Sq} {B : Nat} {A : Option Addr} {L : List Sq} (h : SqA w B A L) (hc : Cov w b C) (hb : CBut b w w') : SqA w' B A L := by
  have key : ∀ (p : Addr) v, w.cell? p = some v → w'.cell? p = some v := fun p v hp => by
    have h1 := cell_ne_map hc hp
    have h2 := hb.block p.block (World.block_lt_of_cell? _ _ hp) h1
    unfold World.cell? at hp ⊢
    rw [h2]; exact hp
  intro i s hs
  obtain ⟨ad, ha, hlt, h1, h2, h3⟩ := h i s hs
  exact ⟨ad, ha, hlt, key _ _ h1, key _ _ h2, key _ _ h3⟩
theorem SqSl.cbut {w w' : World} {b : Nat → Nat} {C : List Sq} {B : Nat} {v : Value} {L : List Sq} (h : SqSl w B v L) (hc : Cov w b C) (hb : CBut b w w') : SqSl w' B v L := by
  obtain ⟨A, c, hv, h⟩ := h; exact ⟨A, c, hv, h.cbut hc hb⟩

end Go.Proofs.YtijidcigfdblaaaGreatDoor
namespace Go.Proofs.YtijidcigfdblaaaGreatDoor
open Go.RowKit Go.Plc

set_option maxHeartbeats 1000000 in
theorem has1_any (q s : Sq) (g : Nat) (w : World) (hb : w.heap[g]? = some (sqO s)) (hq : q.okB = true) (hs : s.okB = true) :
    Calls Tryz.prog 218 #[sqv q, .pointer (some ⟨g, 0, none⟩)] w fun e w' => e = .returned (.bool (withinS s q)) ∧ Below w.heap.size w w' := by
  have HW := Lib.hid (fun w => within_any s q w hs hq)
  obtain ⟨c0, c1, c2⟩ := sq_cells (s := s) ((Below.heap_alloc w (.cells #[.int .i64 q.l, .int .i64 q.x, .int .i64 q.y] 23) g (Array.getElem?_eq_some_iff.1 hb).1).trans hb)
  have hz : g < w.heap.size := (Array.getElem?_eq_some_iff.1 hb).1
  clear hb hq hs
  unfold sqv at *
  go_enter Tryz.func218, Tryz.ntmps218
  go_wp2_with fail
  refine (HW.out _).mono ?_
  rintro e w1 ⟨rfl, hb1⟩
  have HB := Lib.hid (show Below w.heap.size w w1 from (below_new _).trans (hb1.mono (by simp)))
  clear hb1
  go_wp2_with fail
  go_ret
  exact ⟨rfl, HB.out⟩

set_option maxRecDepth 100000 in
set_option maxHeartbeats 2000000 in
theorem IndexHas_any (g : Nat) (P : Sq → Bool) (v : Value) (L : List Sq) (w : World) (hv : SqSl w w.heap.size v L) (hn : L.length ≤ 1000000)
    (hF : ∀ X, Below w.heap.size w X → ∀ q ∈ L, Calls Tryz.prog 218 #[sqv q, .pointer (some ⟨g, 0, none⟩)] X fun e w' => e = .returned (.bool (P q)) ∧ Below X.heap.size X w') :
    Calls Tryz.prog 249 #[v, .func (.func 218) #[] #[.pointer (some ⟨g, 0, none⟩)]] w fun e w' => (∃ k : Int, e = .returned (.int .i64 k) ∧ decide (0 ≤ k) = L.any P) ∧ Below w.heap.size w w' := by
  have HF := Lib.hid hF
  obtain ⟨A, c, rfl, hA⟩ := hv
  have HA := Lib.hid hA
  clear hA hF
  generalize hL : L.length = n at *
  have HL := Lib.hid hL
  clear hL
  unfold sqv at *
  go_enter Tryz.func249, Tryz.ntmps249
  go_wp2_with fail
  go_loopw [8] (fun k wr => ∃ i : Nat, k = .int .i64 (i : Int) ∧ i ≤ n ∧ (L.take i).any P = false ∧ Below w.heap.size w wr) (fun k _ => n - (intOf k).toNat)
  case atStart => exact ⟨0, rfl, Nat.zero_le _, rfl, Below.refl _ _⟩
  case round =>
    obtain ⟨i, rfl, hin, hno, hbel⟩ := hrel
    have HN := Lib.hid hno
    have HB := Lib.hid hbel
    clear hno hbel
    by_cases hlt : i < n
    · obtain ⟨s, ad, hs, hm, rfl, hb, h1, h2, h3⟩ := (HA.out.below HB.out).at_ HL.out hlt
      have HFs := Lib.hid (HF.out wr HB.out s hm)
      have HT := Lib.hid (show (L.take (i + 1)).any P = P s by
        obtain ⟨hi, e⟩ := List.getElem?_eq_some_iff.1 hs
        rw [List.take_succ_eq_append_getElem hi, List.any_append, HN.out, e]; simp)
      have HAn := Lib.hid (show P s = true → L.any P = true from fun h => List.any_eq_true.2 ⟨s, hm, h⟩)
      clear hs hm
      go_wp2_with fail
      refine HFs.out.mono ?_
      rintro e w1 ⟨rfl, hb1⟩
      have HB1 := Lib.hid (HB.out.trans (hb1.mono HB.out.size))
      clear hb1
      cases hp : P s
      · rw [hp] at HT
        clear hp
        go_wp2_with fail
        go_roundw
        case rel => exact ⟨i + 1, by go_num, by omega, HT.out, HB1.out⟩
        case measure => simp [intOf]; omega
      · have HY := Lib.hid (HAn.out hp)
        clear hp
        go_wp2_with fail
        go_ret
        exact ⟨⟨_, rfl, by rw [HY.out]; simp⟩, HB1.out⟩
    · have HE := Lib.hid (show L.any P = false by
        have h := HN.out
        rwa [List.take_of_length_le (by have := HL.out; omega)] at h)
      go_wp2_with fail
      go_ret
      exact ⟨⟨_, rfl, by rw [HE.out]; rfl⟩, HB.out⟩

set_option maxHeartbeats 1000000 in
theorem containsHas_any (g : Nat) (P : Sq → Bool) (v : Value) (L : List Sq) (w : World) (hv : SqSl w w.heap.size v L) (hn : L.length ≤ 1000000)
    (hF : ∀ X, Below w.heap.size w X → ∀ q ∈ L, Calls Tryz.prog 218 #[sqv q, .pointer (some ⟨g, 0, none⟩)] X fun e w' => e = .returned (.bool (P q)) ∧ Below X.heap.size X w') :
    Calls Tryz.prog 217 #[v, .func (.func 218) #[] #[.pointer (some ⟨g, 0, none⟩)]] w fun e w' => e = .returned (.bool (L.any P)) ∧ Below w.heap.size w w' := by
  have HI := Lib.hid (IndexHas_any g P v L w hv hn hF)
  clear hF
  go_enter Tryz.func217, Tryz.ntmps217
  go_wp2_with fail
  refine HI.out.mono ?_
  rintro e w1 ⟨⟨k, rfl, hk⟩, hb⟩
  have HK := Lib.hid (And.intro hk hb)
  clear hk hb
  go_wp2_with fail
  go_ret
  exact ⟨ret_b HK.out.1, HK.out.2⟩

/-- what Has and Meets return -/
def askOut (L : List Sq) (s : Sq) (b : Bool) : Bool × Int := if regB L then (if s.okB then (b, 0) else (false, 10)) else (false, 11)
def hasS (L : List Sq) (s : Sq) : Bool := L.any fun q => withinS s q
set_option maxHeartbeats 2000000 in
theorem checkBoth_any (v : Value) (L : List Sq) (s : Sq) (w : World) (hv : SqSl w w.heap.size v L) (hn : L.length ≤ 1000000) :
    Calls Tryz.prog 216 #[v, sqv s] w fun e w' => e = .returned (.int .i64 (askOut L s true).2) ∧ Below w.heap.size w w' := by
  have HR := Lib.hid (fun (w1 : World) (hb : Below w.heap.size w w1) => ValidRegion_any v L w1 ((hv.below hb).mono hb.size) hn)
  have HV := Lib.hid (fun w => ValidSquare_any s.l s.x s.y w)
  rw [show Sq.mk s.l s.x s.y = s from rfl] at HV
  have HO := Lib.hid (show askOut L s true = if regB L then (if s.okB then (true, 0) else (false, 10)) else (false, 11) from rfl)
  clear hv
  unfold sqv
  cases hr : regB L
  · rw [hr] at HR HO
    clear hr
    go_enter Tryz.func216, Tryz.ntmps216
    go_wp2_with fail
    refine (HR.out _ (below_new _)).mono ?_
    rintro e w1 ⟨rfl, hb1⟩
    have HB := Lib.hid (show Below w.heap.size w w1 from (below_new _).trans (hb1.mono (by simp)))
    clear hb1
    go_wp2_with fail
    go_ret
    exact ⟨ret_i (by rw [HO.out]; rfl), HB.out⟩
  · rw [hr] at HR HO
    clear hr
    cases hs : s.okB
    all_goals
      rw [hs] at HV HO
      clear hs
      go_enter Tryz.func216, Tryz.ntmps216
      go_wp2_with fail
      refine (HR.out _ (below_new _)).mono ?_
      rintro e w1 ⟨rfl, hb1⟩
      have HB := Lib.hid (show Below w.heap.size w w1 from (below_new _).trans (hb1.mono (by simp)))
      obtain ⟨c0, c1, c2⟩ := sq_cells (s := s) ((hb1.block w.heap.size (by simp)).trans (World.alloc_heap_new w _))
      clear hb1
      go_wp2_with fail
      refine (HV.out _).mono ?_
      rintro e w2 ⟨rfl, hb2⟩
      have HB2 := Lib.hid (HB.out.trans (hb2.mono HB.out.size))
      clear hb2 c0 c1 c2
      go_wp2_with fail
      go_ret
      exact ⟨ret_i (by rw [HO.out]; rfl), HB2.out⟩

set_option maxHeartbeats 2000000 in
theorem Has_any (v : Value) (L : List Sq) (s : Sq) (w : World) (hv : SqSl w w.heap.size v L) (hn : L.length ≤ 1000000) :
    Calls Tryz.prog 172 #[v, sqv s] w fun e w' => e = .returned (.tuple #[.bool (askOut L s (hasS L s)).1, .int .i64 (askOut L s (hasS L s)).2]) ∧ Below w.heap.size w w' := by
  have HC := Lib.hid (fun (w1 : World) (hb : Below w.heap.size w w1) => checkBoth_any v L s w1 ((hv.below hb).mono hb.size) hn)
  have HVs := Lib.hid (fun (w1 : World) (hb : Below w.heap.size w w1) => (hv.below hb).mono hb.size)
  clear hv
  by_cases hok : regB L = true ∧ s.okB = true
  · have HO := Lib.hid (show askOut L s (hasS L s) = (hasS L s, 0) by unfold askOut; rw [hok.1, hok.2]; rfl)
    rw [show askOut L s true = (true, 0) by unfold askOut; rw [hok.1, hok.2]; rfl] at HC
    have HOk := Lib.hid hok
    have HRo := Lib.hid (reg_ok hok.1)
    clear hok
    unfold sqv at *
    go_enter Tryz.func172, Tryz.ntmps172
    go_wp2_with fail
    refine (HC.out _ (below_new _)).mono ?_
    rintro e w1 ⟨rfl, hb1⟩
    have HB := Lib.hid (show Below w.heap.size w w1 ∧ w1.heap[w.heap.size]? = some (sqO s) from ⟨(below_new _).trans (hb1.mono (by simp)), (hb1.block w.heap.size (by simp)).trans (World.alloc_heap_new w _)⟩)
    clear hb1
    have HF := Lib.hid (containsHas_any w.heap.size (fun q => withinS s q) v L w1 (HVs.out w1 HB.out.1) hn (fun X hX q hq => has1_any q s w.heap.size X ((hX.block _ (Array.getElem?_eq_some_iff.1 HB.out.2).1).trans HB.out.2) (HRo.out.2 q hq) HOk.out.2))
    go_wp2_with fail
    refine HF.out.mono ?_
    rintro e w2 ⟨rfl, hb2⟩
    have HB2 := Lib.hid (HB.out.1.trans (hb2.mono HB.out.1.size))
    clear hb2
    go_wp2_with fail
    go_ret2
    exact ⟨by rw [HO.out]; rfl, HB2.out⟩
  · have HO := Lib.hid (show ∃ er : Int, askOut L s (hasS L s) = (false, er) ∧ (askOut L s true).2 = er ∧ (er != 0) = true by
      unfold askOut
      cases hr : regB L
      · exact ⟨11, rfl, rfl, rfl⟩
      · cases hs : s.okB
        · exact ⟨10, rfl, rfl, rfl⟩
        · exact absurd ⟨hr, hs⟩ hok)
    obtain ⟨er, e1, e2, e3⟩ := HO.out
    rw [e2] at HC
    have HE := Lib.hid e1
    clear e1 e2 hok HO
    unfold sqv
    go_enter Tryz.func172, Tryz.ntmps172
    go_wp2_with fail
    refine (HC.out _ (below_new _)).mono ?_
    rintro e w1 ⟨rfl, hb1⟩
    have HB := Lib.hid (show Below w.heap.size w w1 from (below_new _).trans (hb1.mono (by simp)))
    clear hb1
    go_wp2_with fail
    go_ret2
    exact ⟨by rw [HE.out]; rfl, HB.out⟩

/-! the area -/
end Go.Proofs.YtijidcigfdblaaaGreatDoor
namespace Go.Plc

def vday (n : Int) : Bool := vdate 0 (n.tdiv 100) (n.tmod 100)
def inC (f t n : Int) : Bool := if f ≤ t then decide (f ≤ n) && decide (n ≤ t) else decide (f ≤ n) || decide (n ≤ t)

end Go.Plc
namespace Go.Proofs.YtijidcigfdblaaaGreatDoor
open Go.RowKit Go.Plc

theorem two_cells {w : World} {g : Nat} {a b : Value} {t : TypeId} (h : w.heap[g]? = some (.cells #[a, b] t)) : w.cell? ⟨g, 0, none⟩ = some a ∧ w.cell? ⟨g, 1, none⟩ = some b := by simp [World.cell?, h]
theorem tdiv_wrap {n : Int} (h0 : -9223372036854775808 ≤ n) (h1 : n ≤ 9223372036854775807) : wrap64 (n.tdiv 100) = n.tdiv 100 := by
  have e := Int.tmod_add_mul_tdiv n 100
  have l1 := Int.tmod_lt_of_pos n (show (0 : Int) < 100 by decide)
  have l2 := Int.lt_tmod_of_pos n (show (0 : Int) < 100 by decide)
  unfold wrap64
  omega
set_option maxHeartbeats 400000 in
theorem validDay_any (n : Int) (w : World) (hM : MonthDays w) (h0 : -9223372036854775808 ≤ n) (h1 : n ≤ 9223372036854775807) :
    Calls Tryz.prog 178 #[.int .i64 n] w fun e w' => e = .returned (.bool (vday n)) ∧ Below w.heap.size w w' := by
  have HV := Lib.hid (ValidDate_any 0 (n.tdiv 100) (n.tmod 100) w hM)
  have HD := Lib.hid (show vday n = vdate 0 (n.tdiv 100) (n.tmod 100) from rfl)
  have hw := tdiv_wrap h0 h1
  clear hM
  go_enter Tryz.func178, Tryz.ntmps178
  go_wp2_with fail
  refine HV.out.mono ?_
  rintro e w1 ⟨rfl, hb⟩
  have HB := Lib.hid hb
  clear hb
  go_wp2_with fail
  go_ret
  exact ⟨ret_b (by rw [HD.out]), HB.out⟩

set_option maxHeartbeats 1000000 in
theorem ValidSeason_any (f t : Int) (w : World) (hM : MonthDays w) (f0 : -9223372036854775808 ≤ f) (f1 : f ≤ 9223372036854775807) (t0 : -9223372036854775808 ≤ t) (t1 : t ≤ 9223372036854775807) :
    Calls Tryz.prog 119 #[.agg #[.int .i64 f, .int .i64 t]] w fun e w' => e = .returned (.bool (vday f && vday t)) ∧ Below w.heap.size w w' := by
  have HM := Lib.hid hM
  have HF := Lib.hid (validDay_any f (w.alloc (.cells #[.int .i64 f, .int .i64 t] 90)) (hM.alloc _) f0 f1)
  have HT := Lib.hid (fun w hM => validDay_any t w hM t0 t1)
  clear hM
  generalize vday f = a at *
  generalize vday t = b at *
  cases a
  · go_enter Tryz.func119, Tryz.ntmps119
    go_wp2_with fail
    refine HF.out.mono ?_
    rintro e w1 ⟨rfl, hb1⟩
    have H1 := Lib.hid (show Below w.heap.size w w1 from (below_new _).trans (hb1.mono (by simp)))
    clear hb1
    go_wp2_with fail
    go_ret
    exact ⟨rfl, H1.out⟩
  · go_enter Tryz.func119, Tryz.ntmps119
    go_wp2_with fail
    refine HF.out.mono ?_
    rintro e w1 ⟨rfl, hb1⟩
    have H1 := Lib.hid (show Below w.heap.size w w1 from (below_new _).trans (hb1.mono (by simp)))
    obtain ⟨q0, q1⟩ := two_cells ((hb1.block w.heap.size (by simp)).trans (World.alloc_heap_new w _))
    clear hb1
    go_wp2_with fail
    refine (HT.out _ (HM.out.below H1.out)).mono ?_
    rintro e w2 ⟨rfl, hb2⟩
    have H2 := Lib.hid (H1.out.trans (hb2.mono H1.out.size))
    clear hb2
    go_wp2_with fail
    go_ret
    exact ⟨rfl, H2.out⟩

/-- what InSeason returns -/
def SeaRes (f t n : Int) (w : World) (e : Ending) (w' : World) : Prop :=
  (((vday f && vday t) = true ∧ 0 ≤ n ∧ n ≤ 99999 ∧ ∃ y m d, e = .returned (.tuple #[.bool (inC f t (100 * m + d)), .int .i64 0]) ∧ vdate y m d = true ∧ num y m d = n) ∨
    (∃ er : Int, e = .returned (.tuple #[.bool false, .int .i64 er]) ∧ (er != 0) = true ∧ ((vday f && vday t) = false ∨ ¬ (0 ≤ n ∧ n ≤ 99999)) ∧ er = if (vday f && vday t) = true then 1 else 12)) ∧ Below w.heap.size w w'
set_option maxHeartbeats 2000000 in
theorem InSeason_any (f t n : Int) (w : World) (hM : MonthDays w) (f0 : -9223372036854775808 ≤ f) (f1 : f ≤ 9223372036854775807) (t0 : -9223372036854775808 ≤ t) (t1 : t ≤ 9223372036854775807) :
    Calls Tryz.prog 173 #[.agg #[.int .i64 f, .int .i64 t], .int .i64 n] w (SeaRes f t n w) := by
  have HM := Lib.hid hM
  have HV := Lib.hid (ValidSeason_any f t (w.alloc (.cells #[.int .i64 f, .int .i64 t] 90)) (hM.alloc _) f0 f1 t0 t1)
  have HVn := Lib.hid (fun w => validNight_any n w)
  clear hM
  cases hs : (vday f && vday t)
  · rw [hs] at HV
    have HS := Lib.hid hs
    clear hs
    go_enter Tryz.func173, Tryz.ntmps173
    go_wp2_with fail
    refine HV.out.mono ?_
    rintro e w1 ⟨rfl, hb1⟩
    have H1 := Lib.hid (show Below w.heap.size w w1 from (below_new _).trans (hb1.mono (by simp)))
    clear hb1
    go_wp2_with fail
    go_ret2
    exact ⟨.inr ⟨12, rfl, rfl, .inl HS.out, by rw [HS.out]; rfl⟩, H1.out⟩
  · rw [hs] at HV
    have HS := Lib.hid hs
    clear hs
    by_cases hn : 0 ≤ n ∧ n ≤ 99999
    · have e1 : (decide (0 ≤ n) && decide (n ≤ 99999)) = true := by simp; omega
      rw [e1] at HVn
      have HN := Lib.hid hn
      have HD := Lib.hid (fun w hM => dateBehind_any n w hM hn.1 (by omega))
      clear hn e1
      go_enter Tryz.func173, Tryz.ntmps173
      go_wp2_with fail
      refine HV.out.mono ?_
      rintro e w1 ⟨rfl, hb1⟩
      have H1 := Lib.hid (show Below w.heap.size w w1 ∧ w1.heap[w.heap.size]? = some (.cells #[.int .i64 f, .int .i64 t] 90) from ⟨(below_new _).trans (hb1.mono (by simp)), (hb1.block w.heap.size (by simp)).trans (World.alloc_heap_new w _)⟩)
      clear hb1
      go_wp2_with fail
      refine (HVn.out _).mono ?_
      rintro e w2 ⟨rfl, rfl⟩
      go_wp2_with fail
      refine (HD.out _ (HM.out.below H1.out.1)).mono ?_
      rintro e w2 ⟨y, m, d, rfl, hv, hnm, hb2⟩
      have H2 := Lib.hid (show Below w.heap.size w w2 ∧ w2.heap[w.heap.size]? = some (.cells #[.int .i64 f, .int .i64 t] 90) from ⟨H1.out.1.trans (hb2.mono H1.out.1.size), (hb2.block _ (Array.getElem?_eq_some_iff.1 H1.out.2).1).trans H1.out.2⟩)
      have HR := Lib.hid (And.intro hv hnm)
      obtain ⟨v1, v2, v3, v4, v5, v6⟩ := (vdate_iff _ _ _).1 hv
      have hdm := dom_bd y m
      obtain ⟨q0, q1⟩ := two_cells H2.out.2
      have hz : w.heap.size < w2.heap.size := (Array.getElem?_eq_some_iff.1 H2.out.2).1
      have HI := Lib.hid (show inC f t (100 * m + d) = if f ≤ t then decide (f ≤ 100 * m + d) && decide (100 * m + d ≤ t) else decide (f ≤ 100 * m + d) || decide (100 * m + d ≤ t) from rfl)
      clear hv hnm hb2
      have hw1 : IntKind.i64.wrap (100 * m) = 100 * m := by rw [IntKind.wrap_i64]; omega
      have hw2 : IntKind.i64.wrap (100 * m + d) = 100 * m + d := by rw [IntKind.wrap_i64]; omega
      by_cases c1 : f ≤ t
      · cases c2 : decide (f ≤ 100 * m + d) <;> cases c3 : decide (100 * m + d ≤ t)
        all_goals
          have HC := Lib.hid (And.intro c1 (And.intro c2 c3))
          go_wp2_with fail
          go_ret2
          exact ⟨.inl ⟨HS.out, HN.out.1, HN.out.2, y, m, d, ret_bi (by rw [HI.out, if_pos HC.out.1, HC.out.2.1, HC.out.2.2]; rfl) rfl, HR.out⟩, H2.out.1.trans ((below_new _).mono H2.out.1.size)⟩
      · cases c2 : decide (f ≤ 100 * m + d) <;> cases c3 : decide (100 * m + d ≤ t)
        all_goals
          have HC := Lib.hid (And.intro c1 (And.intro c2 c3))
          go_wp2_with fail
          go_ret2
          exact ⟨.inl ⟨HS.out, HN.out.1, HN.out.2, y, m, d, ret_bi (by rw [HI.out, if_neg (by have := HC.out.1; omega), HC.out.2.1, HC.out.2.2]; rfl) rfl, HR.out⟩, H2.out.1.trans ((below_new _).mono H2.out.1.size)⟩
    · have e1 : (decide (0 ≤ n) && decide (n ≤ 99999)) = false := by rw [Bool.and_eq_false_iff]; simp; omega
      rw [e1] at HVn
      have HN := Lib.hid hn
      clear hn e1
      go_enter Tryz.func173, Tryz.ntmps173
      go_wp2_with fail
      refine HV.out.mono ?_
      rintro e w1 ⟨rfl, hb1⟩
      have H1 := Lib.hid (show Below w.heap.size w w1 from (below_new _).trans (hb1.mono (by simp)))
      clear hb1
      go_wp2_with fail
      refine (HVn.out _).mono ?_
      rintro e w2 ⟨rfl, rfl⟩
      go_wp2_with fail
      go_ret2
      exact ⟨.inr ⟨1, rfl, rfl, .inr HN.out, by rw [HS.out]; rfl⟩, H1.out⟩
end Go.Proofs.YtijidcigfdblaaaGreatDoor
