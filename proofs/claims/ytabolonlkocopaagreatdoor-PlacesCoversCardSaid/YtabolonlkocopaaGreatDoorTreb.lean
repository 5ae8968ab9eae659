/- The reference's sorting. -/
import Derived.Test.YtabolonlkocopaaGreatDoorTrea
import Derived.Test.YtabolonlkocopaaGreatDoorUni
import Derived.Test.YtabolonlkocopaaGreatDoorTxa
import Derived.Test.YtabolonlkocopaaGreatDoorFact
import Derived.Test.YtabolonlkocopaaGreatDoorCgx
import Derived.Test.YtabolonlkocopaaGreatDoorSame
namespace Go.Proofs.YtabolonlkocopaaGreatDoor
open Go.RowKit Go.Plc

/-- merging: as the reference does it -/
def mrg : List Sq → List Sq → List Sq
  | [], b => b
  | x :: a, [] => x :: a
  | x :: a, y :: b => if aheadB y x then y :: mrg (x :: a) b else x :: mrg a (y :: b)
termination_by a b => a.length + b.length
theorem mrg_perm : ∀ (a b : List Sq), (mrg a b).Perm (a ++ b)
  | [], b => by rw [mrg]; exact List.Perm.refl _
  | x :: a, [] => by rw [mrg, List.append_nil]
  | x :: a, y :: b => by
    rw [mrg]
    split
    · have := mrg_perm (x :: a) b
      exact (List.Perm.cons y this).trans List.perm_middle.symm
    · exact List.Perm.cons x (mrg_perm a (y :: b))
termination_by a b => a.length + b.length
theorem mrg_sorted : ∀ (a b : List Sq), a.Pairwise (fun p q => leS p q = true) → b.Pairwise (fun p q => leS p q = true) → (mrg a b).Pairwise (fun p q => leS p q = true)
  | [], b, _, hb => by rw [mrg]; exact hb
  | x :: a, [], ha, _ => by rw [mrg]; exact ha
  | x :: a, y :: b, ha, hb => by
    rw [mrg]
    obtain ⟨ha1, ha2⟩ := List.pairwise_cons.1 ha
    obtain ⟨hb1, hb2⟩ := List.pairwise_cons.1 hb
    split
    · rename_i h
      have hyx : leS y x = true := by
        have := leS_total y x
        rcases Bool.or_eq_true_iff.1 this with h2 | h2
        · exact h2
        · unfold leS at h2; rw [h] at h2; cases h2
      refine List.pairwise_cons.2 ⟨fun q hq => ?_, mrg_sorted (x :: a) b ha hb2⟩
      rcases List.mem_append.1 ((mrg_perm (x :: a) b).mem_iff.1 hq) with hq | hq
      · rcases List.mem_cons.1 hq with rfl | hq
        · exact hyx
        · exact leS_trans _ _ _ hyx (ha1 q hq)
      · exact hb1 q hq
    · rename_i h
      have hxy : leS x y = true := by unfold leS; simpa using h
      refine List.pairwise_cons.2 ⟨fun q hq => ?_, mrg_sorted a (y :: b) ha2 hb⟩
      rcases List.mem_append.1 ((mrg_perm a (y :: b)).mem_iff.1 hq) with hq | hq
      · exact ha1 q hq
      · rcases List.mem_cons.1 hq with rfl | hq
        · exact hxy
        · exact leS_trans _ _ _ hxy (hb1 q hq)
termination_by a b => a.length + b.length
theorem mrg_sort (L : List Sq) (h : Nat) : mrg (sortS (L.take h)) (sortS (L.drop h)) = sortS L := by
  refine perm_sorted_eq leS_anti ?_ (mrg_sorted _ _ (sortS_sorted _) (sortS_sorted _)) (sortS_sorted L)
  refine ((mrg_perm _ _).trans ((sortS_perm _).append (sortS_perm _))).trans ?_
  rw [List.take_append_drop]
  exact (sortS_perm L).symm
theorem mrg_left {a b : List Sq} {i k : Nat} {x : Sq} (hx : a[i]? = some x) (h : b.length ≤ k ∨ ∃ y, b[k]? = some y ∧ aheadB y x = false) : mrg (a.drop i) (b.drop k) = x :: mrg (a.drop (i + 1)) (b.drop k) := by
  obtain ⟨hi, e⟩ := List.getElem?_eq_some_iff.1 hx
  rw [List.drop_eq_getElem_cons hi, e]
  rcases h with h | ⟨y, hy, hn⟩
  · rw [List.drop_eq_nil_of_le h, mrg]
    cases a.drop (i + 1) <;> rw [mrg]
  · obtain ⟨hk, e2⟩ := List.getElem?_eq_some_iff.1 hy
    rw [List.drop_eq_getElem_cons hk, e2, mrg, if_neg (by rw [hn]; decide)]
theorem mrg_right {a b : List Sq} {i k : Nat} {y : Sq} (hy : b[k]? = some y) (h : a.length ≤ i ∨ ∃ x, a[i]? = some x ∧ aheadB y x = true) : mrg (a.drop i) (b.drop k) = y :: mrg (a.drop i) (b.drop (k + 1)) := by
  obtain ⟨hk, e⟩ := List.getElem?_eq_some_iff.1 hy
  rw [List.drop_eq_getElem_cons hk, e]
  rcases h with h | ⟨x, hx, hn⟩
  · rw [List.drop_eq_nil_of_le h, mrg, mrg]
  · obtain ⟨hi, e2⟩ := List.getElem?_eq_some_iff.1 hx
    rw [List.drop_eq_getElem_cons hi, e2, mrg, if_pos hn]
theorem mrg_len (a b : List Sq) : (mrg a b).length = a.length + b.length := by rw [(mrg_perm a b).length_eq, List.length_append]

/-! parts of slices -/
theorem sq_take {w : World} {B : Nat} {A : Option Addr} {L : List Sq} (h : SqA w B A L) (m : Nat) : SqA w B A (L.take m) := fun i s hs => by
  refine h i s ?_
  rw [List.getElem?_take] at hs
  split at hs
  · exact hs
  · cases hs
theorem sq_drop {w : World} {B : Nat} {ad : Addr} {L : List Sq} (h : SqA w B (some ad) L) (m : Nat) : SqA w B (some (ad.add (m * 3))) (L.drop m) := fun i s hs => by
  rw [List.getElem?_drop] at hs
  obtain ⟨ad', e, hb, h1, h2, h3⟩ := h (m + i) s hs
  injection e with e
  subst e
  have ea : (ad.add (m * 3)).add (i * 3) = ad.add ((m + i) * 3) := by rw [Addr.add_add, Nat.add_mul]
  exact ⟨_, rfl, by rw [add_block]; exact hb, by rw [ea]; exact h1, by rw [ea]; exact h2, by rw [ea]; exact h3⟩

set_option maxHeartbeats 1000000 in
theorem rAheadJ (a b : Sq) (w : World) : Calls Tryz.prog 102 #[.agg #[.int .i64 a.l, .int .i64 a.x, .int .i64 a.y], .agg #[.int .i64 b.l, .int .i64 b.x, .int .i64 b.y]] w fun e w' => e = .returned (.bool (aheadB a b)) ∧ Below w.heap.size w w' := by
  have HO := Lib.hid (show aheadB a b = (if a.l ≠ b.l then decide (a.l < b.l) else if a.y ≠ b.y then decide (a.y < b.y) else decide (a.x < b.x)) from rfl)
  by_cases h1 : a.l = b.l
  · by_cases h2 : a.y = b.y
    · go_enter Tryz.func102, Tryz.ntmps102
      go_wp2_with fail
      go_ret
      exact ⟨ret_b (by rw [HO.out, if_neg (by simp [h1]), if_neg (by simp [h2])]), (below_new _).alloc (by simp) _⟩
    · go_enter Tryz.func102, Tryz.ntmps102
      go_wp2_with fail
      go_ret
      exact ⟨ret_b (by rw [HO.out, if_neg (by simp [h1]), if_pos h2]), (below_new _).alloc (by simp) _⟩
  · go_enter Tryz.func102, Tryz.ntmps102
    go_wp2_with fail
    go_ret
    exact ⟨ret_b (by rw [HO.out, if_pos h1]), (below_new _).alloc (by simp) _⟩
set_option maxRecDepth 100000 in
set_option maxHeartbeats 8000000 in
theorem rSorted_any : ∀ (N : Nat) (L : List Sq) (A : Option Addr) (c : Nat) (w : World), L.length ≤ N → L.length ≤ c → L.length ≤ 100000 → c ≤ 9223372036854775807 → SqSl w w.heap.size (.slice A L.length c) L →
    Calls Tryz.prog 69 #[.slice A L.length c] w fun e w' => (∃ u, e = .returned u ∧ SqSl w' w'.heap.size u (sortS L)) ∧ Below w.heap.size w w' := fun N => by
  induction N using Nat.strongRecOn with
  | _ N ih =>
    intro L A c w hN hc hn hcm hv
    have HV := Lib.hid hv
    have HI := Lib.hid ih
    have HN := Lib.hid hN
    obtain ⟨i0, hi0, hz0, hz1, hz2⟩ := info_parts infoSq
    have HZ := Lib.hid (show i0.size = 3 ∧ i0.bytes = 24 ∧ Tryz.prog.info? 31 = some i0 ∧ i0.zero = some (.agg #[.int .i64 0, .int .i64 0, .int .i64 0]) from ⟨hz1, hz2, hi0, hz0⟩)
    clear hz0 hz1 hz2 hi0 ih hv hN
    generalize hnn : L.length = n at *
    have HNn := Lib.hid hnn
    clear hnn
    by_cases h2 : (n : Int) < 2
    · have hss : sortS L = L := by
        match L, HNn.out with
        | [], _ => rfl
        | [x], _ => rfl
        | x :: y :: t, e => simp at e; omega
      rw [hss]
      have HO0 := Lib.hid (show (w.alloc (.cells #[] 31)).ownsRow w.heap.size 31 3 (.slice (some ⟨w.heap.size, 0, none⟩) 0 0) 0 (cellsOf []) from World.ownsRow_lit w #[] 0 (Nat.le_refl _) (by unfold maxLen; omega) rfl)
      have HI0 := Lib.hid (show OwJ w 31 3 (.slice (some ⟨w.heap.size, 0, none⟩) 0 0) 0 (cellsOf []) (w.alloc (.cells #[] 31)) from ⟨below_new _, HO0.out⟩)
      rcases A with _ | ad
      · have hL0 : L = [] := by
          obtain ⟨A', c', e, hS⟩ := HV.out
          injection e with e1 e2 e3
          subst e1
          exact nil_of_none hS
        subst hL0
        obtain rfl : n = 0 := HNn.out.symm
        go_enter Tryz.func69, Tryz.ntmps69
        go_wp2_with (at_builtin; refine wpList_append_nil rfl _ _ 22 rfl w.heap.size 31 i0 3 c Tryz.underlying22 HZ.out.2.2.1 (.slice (some ⟨w.heap.size, 0, none⟩) 0 0) 0 (cellsOf []) rfl HO0.out rfl ?_)
        go_ret
        exact ⟨⟨_, rfl, some ⟨w.heap.size, 0, none⟩, 0, rfl, fun i s hs => by simp at hs⟩, below_new _⟩
      · have HC := Lib.hid (show ∀ j u, (cellsOf L)[j]? = some u → (w.alloc (.cells #[] 31)).cell? (ad.add j) = some u from by
          obtain ⟨A', c', e, hS⟩ := HV.out
          injection e with e1 e2 e3
          subst e1
          exact (hS.below (below_new _)).cells_at)
        have HL3 := Lib.hid (cellsOf_len L)
        have H1 := Lib.hid (cellsOf_one L)
        go_enter Tryz.func69, Tryz.ntmps69
        go_wp2_with (at_builtin; refine wpList_append_own _ rfl _ _ 22 rfl w.heap.size 31 i0 (.agg #[.int .i64 0, .int .i64 0, .int .i64 0]) 3 24 Tryz.underlying22 HZ.out.2.2.1 HZ.out.2.2.2 HZ.out.1 HZ.out.2.1 rfl (by decide) (.slice (some ⟨w.heap.size, 0, none⟩) 0 0) 0 (cellsOf []) rfl HO0.out ad n c (cellsOf L) rfl (by rw [HL3.out, HNn.out]) HC.out H1.out (by unfold maxLen; omega) (by omega) (by simp) ?_; intro v4 w4 hown4 hg4 hnn4)
        have HF := Lib.hid (show SqSl w4 w4.heap.size v4 L ∧ Below w.heap.size w w4 from by
          have h := HI0.out.grown (Below.refl _ _) hg4 hown4
          have h2 := h.own
          rw [show 0 + n = L.length by rw [HNn.out]; omega] at h2
          exact ⟨SqA.of_own h2, h.bel⟩)
        obtain ⟨A4, c4, rfl⟩ := sl_formJ HF.out.1
        clear hown4 hg4 hnn4
        go_wp2_with fail
        go_ret
        exact ⟨⟨_, rfl, HF.out.1⟩, HF.out.2⟩
    · obtain ⟨ad, rfl⟩ : ∃ ad, A = some ad := by
        cases A with
        | none =>
          obtain ⟨A', c', e, hS⟩ := HV.out
          injection e with e1 e2 e3
          subst e1
          have := nil_of_none hS
          rw [this] at HNn
          have := HNn.out
          simp at this
          omega
        | some ad => exact ⟨ad, rfl⟩
      obtain ⟨h, hh⟩ : ∃ h, n / 2 = h := ⟨_, rfl⟩
      obtain ⟨m, hm⟩ : ∃ m, n - h = m := ⟨_, rfl⟩
      have HA := Lib.hid (show SqA w w.heap.size (some ad) L from by
        obtain ⟨A', c', e, hS⟩ := HV.out
        injection e with e1 e2 e3
        subst e1
        exact hS)
      have ht : (L.take h).length = h := by rw [List.length_take, HNn.out]; omega
      have hd : (L.drop h).length = m := by rw [List.length_drop, HNn.out]; omega
      have H1 := Lib.hid (HI.out h (by have := HN.out; omega) (L.take h) (some ad) h w (by omega) (by omega) (by omega) (by omega) (show SqSl w w.heap.size (.slice (some ad) (L.take h).length h) (L.take h) from ⟨_, _, rfl, sq_take HA.out h⟩))
      have H2 := Lib.hid (fun (w1 : World) (hb : Below w.heap.size w w1) => HI.out m (by have := HN.out; omega) (L.drop h) (some (ad.add (h * 3))) (c - h) w1 (by omega) (by omega) (by omega) (by omega) (show SqSl w1 w1.heap.size (.slice (some (ad.add (h * 3))) (L.drop h).length (c - h)) (L.drop h) from ⟨_, _, rfl, sq_drop ((HA.out.below hb).mono hb.size) h⟩))
      rw [ht] at H1
      rw [hd] at H2
      have hla : (sortS (L.take h)).length = h := by rw [(sortS_perm _).length_eq, ht]
      have hlb : (sortS (L.drop h)).length = m := by rw [(sortS_perm _).length_eq, hd]
      have HM := Lib.hid (mrg_sort L h)
      generalize sortS (L.take h) = a at *
      generalize sortS (L.drop h) = b at *
      clear ht hd HI
      go_enter Tryz.func69, Tryz.ntmps69
      go_wp2_with fail
      refine H1.out.mono ?_
      rintro e w1 ⟨⟨ua, rfl, hsa⟩, hb1⟩
      obtain ⟨Aa, ca, rfl⟩ := sl_formJ hsa
      rw [hla] at hsa ⊢
      have HSa := Lib.hid (And.intro hsa hb1)
      clear hsa hb1 H1
      go_wp2_with fail
      refine (H2.out _ HSa.out.2).mono ?_
      rintro e w2 ⟨⟨ub, rfl, hsb⟩, hb2⟩
      obtain ⟨Ab, cb, rfl⟩ := sl_formJ hsb
      rw [hlb] at hsb ⊢
      have K0 := Lib.hid (show KB w [] [(.slice Ab m cb, b), (.slice Aa h ca, a)] w2 from
        KB.slice (KB.slice ⟨HSa.out.2.trans (hb2.mono HSa.out.2.size), fun _ hp => absurd hp List.not_mem_nil, fun _ hq => absurd hq List.not_mem_nil⟩ ((HSa.out.1.below hb2).mono hb2.size)) hsb)
      clear hsb hb2 H2 HSa
      go_wp2_with fail
      go_loopw [5, 6, 7] (fun v iv kv wr => ∃ (i k : Nat) (P : List Sq), iv = .int .i64 (i : Int) ∧ kv = .int .i64 (k : Int) ∧ i ≤ h ∧ k ≤ m ∧ OwJ w2 31 3 v P.length (cellsOf P) wr ∧ P ++ mrg (a.drop i) (b.drop k) = sortS L ∧ P.length ≤ i + k) (fun _ iv kv _ => (h + m) - ((intOf iv).toNat + (intOf kv).toNat))
      case atStart => exact ⟨0, 0, [], rfl, rfl, by omega, by omega, OwJ.start _ _ _, by rw [List.drop_zero, List.drop_zero, HM.out]; rfl, by simp⟩
      case round =>
        obtain ⟨i, k, P, rfl, rfl, hi, hk, hO, hP, hPl⟩ := hrel
        have HO := Lib.hid hO
        have HP := Lib.hid hP
        have KI := Lib.hid (K0.out.step hO.bel)
        clear hO hP
        have hlaa := Lib.hid (And.intro hla hlb)
        by_cases hi2 : i < h
        · obtain ⟨x, ada, hx, hxm, rfl, hxb, p1, p2, p3⟩ := sl_atJ (KI.out.sl (.slice Aa h ca, a) (List.mem_cons_of_mem _ List.mem_cons_self)) hi2
          have Hx := Lib.hid hx
          by_cases hk2 : k < m
          · obtain ⟨y, adb, hy, hym, rfl, hyb, q1, q2, q3⟩ := sl_atJ (KI.out.sl (.slice Ab m cb, b) List.mem_cons_self) hk2
            have Hy := Lib.hid hy
            have ss := fun z => (⟨⟨Wb.cell p1 z, Wb.cell p2 z, Wb.cell p3 z⟩, ⟨Wb.cell q1 z, Wb.cell q2 z, Wb.cell q3 z⟩⟩ : (_ ∧ _ ∧ _) ∧ (_ ∧ _ ∧ _))
            have HAh := Lib.hid (fun w => rAheadJ y x w)
            obtain ⟨b9, hb9⟩ : ∃ b9, aheadB y x = b9 := ⟨_, rfl⟩
            rw [hb9] at HAh
            have Hb9 := Lib.hid hb9
            have hkm : ¬ (k : Int) = (m : Int) := by omega
            have hkm' : ¬ k = m := by omega
            clear hx hxm hy hym hb9 hxb hyb p1 p2 p3 q1 q2 q3
            cases b9
            · go_wp2_with fail
              refine wp_region_wb (by kernel_rfl) (by kernel_rfl) ?_; (repeat ((with_reducible refine wpQuiet_step ?_); intro K hK; go_simp; (try (refine ite_neg_of (by simp [undef]) ?_)); first | (with_reducible refine hK _ ?_; clear hK K) | (apply Exists.intro; (with_reducible refine ⟨fun _ => ?_, hK _ ?_⟩); ((go_at_call 102; exact Calls.wb (HAh.out _))); clear hK K))); (with_reducible refine wpQuiet_nil ?_); rintro w1 ⟨⟨_, hb1⟩, rfl⟩; (try dsimp only)
              have HOJ := Lib.hid (HO.out.step hb1)
              have KJ := Lib.hid (KI.out.step hb1)
              have HEq := Lib.hid (show (P ++ [x]) ++ mrg (a.drop (i + 1)) (b.drop (k)) = sortS L from by
                rw [← HP.out, mrg_left Hx.out (.inr ⟨y, Hy.out, Hb9.out⟩), List.append_assoc]; rfl)
              clear hb1 ss HO KI
              obtain ⟨z, az, hz, hzm, haz, hzb, e1, e2, e3⟩ := sl_atJ (KJ.out.sl (.slice (some ada) h ca, a) (List.mem_cons_of_mem _ List.mem_cons_self)) (show i < h by omega)
              obtain rfl : x = z := by have := Hx.out; rw [hz] at this; injection this with this; exact this.symm
              injection haz with haz
              subst haz
              clear hz hzm
              have HO3 := Lib.hid ((HOJ.out.own).alloc (.cells #[.int .i64 x.l, .int .i64 x.x, .int .i64 x.y] 31))
              have HNw := Lib.hid (news1 w1 x)
              have HBs := Lib.hid (show w2.heap.size ≤ (w1.alloc (.cells #[.int .i64 x.l, .int .i64 x.x, .int .i64 x.y] 31)).heap.size from by have := HOJ.out.bound; simp; omega)
              go_wp2_with (at_builtin; refine wpList_append_own _ rfl _ _ 22 rfl w2.heap.size 31 i0 (.agg #[.int .i64 0, .int .i64 0, .int .i64 0]) 3 24 Tryz.underlying22 HZ.out.2.2.1 HZ.out.2.2.2 HZ.out.1 HZ.out.2.1 rfl (by decide) u5 P.length (cellsOf P) rfl HO3.out ⟨w1.heap.size, 0, none⟩ 1 1 [.int .i64 x.l, .int .i64 x.x, .int .i64 x.y] rfl rfl HNw.out.1 HNw.out.2 (by unfold maxLen; omega) (by omega) HBs.out ?_; intro v4 w4 hown4 hg4 hnn4)
              have HOL := Lib.hid (show OwJ w2 31 3 v4 (P ++ [x]).length (cellsOf (P ++ [x])) w4 from by
                have h := HOJ.out.grown (below_new _) hg4 hown4
                rw [List.length_append, List.length_singleton, cells_snoc]; exact h)
              clear hown4 hg4 hnn4
              go_roundw
              case rel => exact ⟨i + 1, k, P ++ [x], by go_num, by go_num, by omega, by omega, HOL.out, HEq.out, by rw [List.length_append, List.length_singleton]; omega⟩
              case measure => simp [intOf]; omega
            · go_wp2_with fail
              refine wp_region_wb (by kernel_rfl) (by kernel_rfl) ?_; (repeat ((with_reducible refine wpQuiet_step ?_); intro K hK; go_simp; (try (refine ite_neg_of (by simp [undef]) ?_)); first | (with_reducible refine hK _ ?_; clear hK K) | (apply Exists.intro; (with_reducible refine ⟨fun _ => ?_, hK _ ?_⟩); ((go_at_call 102; exact Calls.wb (HAh.out _))); clear hK K))); (with_reducible refine wpQuiet_nil ?_); rintro w1 ⟨⟨_, hb1⟩, rfl⟩; (try dsimp only)
              have HOJ := Lib.hid (HO.out.step hb1)
              have KJ := Lib.hid (KI.out.step hb1)
              have HEq := Lib.hid (show (P ++ [y]) ++ mrg (a.drop (i)) (b.drop (k + 1)) = sortS L from by
                rw [← HP.out, mrg_right Hy.out (.inr ⟨x, Hx.out, Hb9.out⟩), List.append_assoc]; rfl)
              clear hb1 ss HO KI
              obtain ⟨z, az, hz, hzm, haz, hzb, e1, e2, e3⟩ := sl_atJ (KJ.out.sl (.slice (some adb) m cb, b) List.mem_cons_self) (show k < m by omega)
              obtain rfl : y = z := by have := Hy.out; rw [hz] at this; injection this with this; exact this.symm
              injection haz with haz
              subst haz
              clear hz hzm
              have HO3 := Lib.hid ((HOJ.out.own).alloc (.cells #[.int .i64 y.l, .int .i64 y.x, .int .i64 y.y] 31))
              have HNw := Lib.hid (news1 w1 y)
              have HBs := Lib.hid (show w2.heap.size ≤ (w1.alloc (.cells #[.int .i64 y.l, .int .i64 y.x, .int .i64 y.y] 31)).heap.size from by have := HOJ.out.bound; simp; omega)
              go_wp2_with (at_builtin; refine wpList_append_own _ rfl _ _ 22 rfl w2.heap.size 31 i0 (.agg #[.int .i64 0, .int .i64 0, .int .i64 0]) 3 24 Tryz.underlying22 HZ.out.2.2.1 HZ.out.2.2.2 HZ.out.1 HZ.out.2.1 rfl (by decide) u5 P.length (cellsOf P) rfl HO3.out ⟨w1.heap.size, 0, none⟩ 1 1 [.int .i64 y.l, .int .i64 y.x, .int .i64 y.y] rfl rfl HNw.out.1 HNw.out.2 (by unfold maxLen; omega) (by omega) HBs.out ?_; intro v4 w4 hown4 hg4 hnn4)
              have HOL := Lib.hid (show OwJ w2 31 3 v4 (P ++ [y]).length (cellsOf (P ++ [y])) w4 from by
                have h := HOJ.out.grown (below_new _) hg4 hown4
                rw [List.length_append, List.length_singleton, cells_snoc]; exact h)
              clear hown4 hg4 hnn4
              go_roundw
              case rel => exact ⟨i, k + 1, P ++ [y], by go_num, by go_num, by omega, by omega, HOL.out, HEq.out, by rw [List.length_append, List.length_singleton]; omega⟩
              case measure => simp [intOf]; omega
          · obtain rfl : k = m := by omega
            have ss := fun z => (⟨Wb.cell p1 z, Wb.cell p2 z, Wb.cell p3 z⟩ : _ ∧ _ ∧ _)
            clear hx hxm hxb p1 p2 p3 hk2
            go_wp2_with fail
            refine wp_region_wb (by kernel_rfl) (by kernel_rfl) ?_; (repeat ((with_reducible refine wpQuiet_step ?_); intro K hK; go_simp; (try (refine ite_neg_of (by simp [undef]) ?_)); first | (with_reducible refine hK _ ?_; clear hK K) | (apply Exists.intro; (with_reducible refine ⟨fun _ => ?_, hK _ ?_⟩); (fail); clear hK K))); (with_reducible refine wpQuiet_nil ?_); rintro w1 ⟨⟨_, hb1⟩, rfl⟩; (try dsimp only)
            have HOJ := Lib.hid (HO.out.step hb1)
            have KJ := Lib.hid (KI.out.step hb1)
            have HEq := Lib.hid (show (P ++ [x]) ++ mrg (a.drop (i + 1)) (b.drop (k)) = sortS L from by
              rw [← HP.out, mrg_left Hx.out (.inl (by rw [hlaa.out.2]; omega)), List.append_assoc]; rfl)
            clear hb1 ss HO KI
            obtain ⟨z, az, hz, hzm, haz, hzb, e1, e2, e3⟩ := sl_atJ (KJ.out.sl (.slice (some ada) h ca, a) (List.mem_cons_of_mem _ List.mem_cons_self)) (show i < h by omega)
            obtain rfl : x = z := by have := Hx.out; rw [hz] at this; injection this with this; exact this.symm
            injection haz with haz
            subst haz
            clear hz hzm
            have HO3 := Lib.hid ((HOJ.out.own).alloc (.cells #[.int .i64 x.l, .int .i64 x.x, .int .i64 x.y] 31))
            have HNw := Lib.hid (news1 w1 x)
            have HBs := Lib.hid (show w2.heap.size ≤ (w1.alloc (.cells #[.int .i64 x.l, .int .i64 x.x, .int .i64 x.y] 31)).heap.size from by have := HOJ.out.bound; simp; omega)
            go_wp2_with (at_builtin; refine wpList_append_own _ rfl _ _ 22 rfl w2.heap.size 31 i0 (.agg #[.int .i64 0, .int .i64 0, .int .i64 0]) 3 24 Tryz.underlying22 HZ.out.2.2.1 HZ.out.2.2.2 HZ.out.1 HZ.out.2.1 rfl (by decide) u5 P.length (cellsOf P) rfl HO3.out ⟨w1.heap.size, 0, none⟩ 1 1 [.int .i64 x.l, .int .i64 x.x, .int .i64 x.y] rfl rfl HNw.out.1 HNw.out.2 (by unfold maxLen; omega) (by omega) HBs.out ?_; intro v4 w4 hown4 hg4 hnn4)
            have HOL := Lib.hid (show OwJ w2 31 3 v4 (P ++ [x]).length (cellsOf (P ++ [x])) w4 from by
              have h := HOJ.out.grown (below_new _) hg4 hown4
              rw [List.length_append, List.length_singleton, cells_snoc]; exact h)
            clear hown4 hg4 hnn4
            go_roundw
            case rel => exact ⟨i + 1, k, P ++ [x], by go_num, by go_num, by omega, by omega, HOL.out, HEq.out, by rw [List.length_append, List.length_singleton]; omega⟩
            case measure => simp [intOf]; omega
        · obtain rfl : i = h := by omega
          by_cases hk2 : k < m
          · obtain ⟨y, adb, hy, hym, rfl, hyb, q1, q2, q3⟩ := sl_atJ (KI.out.sl (.slice Ab m cb, b) List.mem_cons_self) hk2
            have Hy := Lib.hid hy
            have ss := fun z => (⟨Wb.cell q1 z, Wb.cell q2 z, Wb.cell q3 z⟩ : _ ∧ _ ∧ _)
            have hkm : ¬ (k : Int) = (m : Int) := by omega
            have hkm' : ¬ k = m := by omega
            clear hy hym hyb q1 q2 q3 hi2
            go_wp2_with fail
            refine wp_region_wb (by kernel_rfl) (by kernel_rfl) ?_; (repeat ((with_reducible refine wpQuiet_step ?_); intro K hK; go_simp; (try (refine ite_neg_of (by simp [undef]) ?_)); first | (with_reducible refine hK _ ?_; clear hK K) | (apply Exists.intro; (with_reducible refine ⟨fun _ => ?_, hK _ ?_⟩); (fail); clear hK K))); (with_reducible refine wpQuiet_nil ?_); rintro w1 ⟨⟨_, hb1⟩, rfl⟩; (try dsimp only)
            have HOJ := Lib.hid (HO.out.step hb1)
            have KJ := Lib.hid (KI.out.step hb1)
            have HEq := Lib.hid (show (P ++ [y]) ++ mrg (a.drop (i)) (b.drop (k + 1)) = sortS L from by
              rw [← HP.out, mrg_right Hy.out (.inl (by rw [hlaa.out.1]; omega)), List.append_assoc]; rfl)
            clear hb1 ss HO KI
            obtain ⟨z, az, hz, hzm, haz, hzb, e1, e2, e3⟩ := sl_atJ (KJ.out.sl (.slice (some adb) m cb, b) List.mem_cons_self) (show k < m by omega)
            obtain rfl : y = z := by have := Hy.out; rw [hz] at this; injection this with this; exact this.symm
            injection haz with haz
            subst haz
            clear hz hzm
            have HO3 := Lib.hid ((HOJ.out.own).alloc (.cells #[.int .i64 y.l, .int .i64 y.x, .int .i64 y.y] 31))
            have HNw := Lib.hid (news1 w1 y)
            have HBs := Lib.hid (show w2.heap.size ≤ (w1.alloc (.cells #[.int .i64 y.l, .int .i64 y.x, .int .i64 y.y] 31)).heap.size from by have := HOJ.out.bound; simp; omega)
            go_wp2_with (at_builtin; refine wpList_append_own _ rfl _ _ 22 rfl w2.heap.size 31 i0 (.agg #[.int .i64 0, .int .i64 0, .int .i64 0]) 3 24 Tryz.underlying22 HZ.out.2.2.1 HZ.out.2.2.2 HZ.out.1 HZ.out.2.1 rfl (by decide) u5 P.length (cellsOf P) rfl HO3.out ⟨w1.heap.size, 0, none⟩ 1 1 [.int .i64 y.l, .int .i64 y.x, .int .i64 y.y] rfl rfl HNw.out.1 HNw.out.2 (by unfold maxLen; omega) (by omega) HBs.out ?_; intro v4 w4 hown4 hg4 hnn4)
            have HOL := Lib.hid (show OwJ w2 31 3 v4 (P ++ [y]).length (cellsOf (P ++ [y])) w4 from by
              have h := HOJ.out.grown (below_new _) hg4 hown4
              rw [List.length_append, List.length_singleton, cells_snoc]; exact h)
            clear hown4 hg4 hnn4
            go_roundw
            case rel => exact ⟨i, k + 1, P ++ [y], by go_num, by go_num, by omega, by omega, HOL.out, HEq.out, by rw [List.length_append, List.length_singleton]; omega⟩
            case measure => simp [intOf]; omega
          · obtain rfl : k = m := by omega
            have HE := Lib.hid (show P = sortS L from by
              have h := HP.out
              rw [List.drop_eq_nil_of_le (by rw [hlaa.out.1]; omega), List.drop_eq_nil_of_le (by rw [hlaa.out.2]; omega), mrg, List.append_nil] at h
              exact h)
            have HF := Lib.hid (show SqSl wr wr.heap.size u5 (sortS L) from HE.out ▸ SqA.of_own HO.out.own)
            obtain ⟨Au, cu, rfl⟩ := sl_formJ HF.out
            clear hi2 hk2
            go_wp2_with fail
            go_ret
            exact ⟨⟨_, rfl, HF.out⟩, KI.out.bel⟩
end Go.Proofs.YtabolonlkocopaaGreatDoor

/- The reference: are all squares of a list valid? And how gather lists a tree's squares, level by level. -/
namespace Go.Proofs.YtabolonlkocopaaGreatDoor
open Go.RowKit Go.Plc

theorem all_nextQ {P : Sq → Bool} {L : List Sq} {i : Nat} {s : Sq} (h : L[i]? = some s) : (L.take (i + 1)).all P = ((L.take i).all P && P s) := by
  obtain ⟨hi, e⟩ := List.getElem?_eq_some_iff.1 h
  rw [List.take_succ_eq_append_getElem hi, List.all_append, e]; simp
theorem all_bad {P : Sq → Bool} {L : List Sq} {i : Nat} {s : Sq} (h : L[i]? = some s) (hp : P s = false) : L.all P = false := by
  rw [List.all_eq_false]
  exact ⟨s, List.mem_of_getElem? h, by rw [hp]; decide⟩
set_option maxRecDepth 100000 in
set_option maxHeartbeats 4000000 in
theorem rvalid_any (v : Value) (L : List Sq) (w : World) (hv : SqSl w w.heap.size v L) (hn : L.length ≤ 1000000) :
    Calls Tryz.prog 41 #[v] w fun e w' => e = .returned (.bool (L.all Sq.okB)) ∧ Below w.heap.size w w' := by
  obtain ⟨A, c, rfl, hA⟩ := hv
  have HA := Lib.hid hA
  clear hA
  generalize hL : L.length = n at *
  have HL := Lib.hid hL
  clear hL
  have HR := Lib.hid (show L.all Sq.okB = L.all Sq.okB from rfl)
  generalize hr : L.all Sq.okB = r at HR ⊢
  have HRe := Lib.hid hr
  clear hr HR
  go_enter Tryz.func41, Tryz.ntmps41
  go_wp2_with fail
  go_loopw [3] (fun k wr => ∃ i : Nat, k = .int .i64 (i : Int) ∧ i ≤ n ∧ (L.take i).all Sq.okB = true ∧ Below w.heap.size w wr) (fun k _ => n - (intOf k).toNat)
  case atStart => exact ⟨0, rfl, by omega, rfl, Below.refl _ _⟩
  case round =>
    obtain ⟨i, rfl, hin, hall, hbel⟩ := hrel
    have HT := Lib.hid (And.intro hall hbel)
    clear hall hbel
    by_cases hlt : i < n
    · obtain ⟨s, ad, hs, hm, rfl, hb, a0, a1, a2⟩ := (HA.out.below HT.out.2).at_ HL.out hlt
      have HV := Lib.hid (fun w => rValidSquare_any s.l s.x s.y w)
      have ss := fun z => (⟨Wb.cell a0 z, Wb.cell a1 z, Wb.cell a2 z⟩ : _ ∧ _ ∧ _)
      have HS := Lib.hid (show (L.take (i + 1)).all Sq.okB = Sq.okB ⟨s.l, s.x, s.y⟩ ∧ (Sq.okB ⟨s.l, s.x, s.y⟩ = false → r = false) from
        ⟨by rw [all_nextQ hs, HT.out.1]; rfl, fun h => by rw [← HRe.out]; exact all_bad hs h⟩)
      clear hs hm
      generalize Sq.okB ⟨s.l, s.x, s.y⟩ = v0 at *
      cases v0
      · go_wp2_with fail
        refine (HV.out _).mono ?_
        rintro e w1 ⟨rfl, hb1⟩
        go_wp2_with fail
        go_ret
        exact ⟨ret_b (by rw [HS.out.2 trivial]), HT.out.2.trans (hb1.mono HT.out.2.size)⟩
      · go_wp2_with fail
        refine (HV.out _).mono ?_
        rintro e w1 ⟨rfl, hb1⟩
        go_wp2_with fail
        have H2 := Lib.hid (HT.out.2.trans (hb1.mono HT.out.2.size))
        go_roundw
        case rel => exact ⟨i + 1, by go_num, by omega, HS.out.1, H2.out⟩
        case measure => simp [intOf]; omega
    · obtain rfl : i = n := by omega
      go_wp2_with fail
      go_ret
      have H1 := HT.out.1
      rw [List.take_of_length_le (by rw [HL.out]; omega), HRe.out] at H1
      exact ⟨ret_b (by rw [H1]), HT.out.2⟩

/-! the squares of a tree, level by level -/
/-- one level's squares of a list -/
def lvS (L : List Sq) (i : Nat) : List Sq := L.filter fun q => decide (q.l = (i : Int))
theorem lvS_append (a b : List Sq) (i : Nat) : lvS (a ++ b) i = lvS a i ++ lvS b i := by unfold lvS; rw [List.filter_append]
theorem lvS_self {s : Sq} {i : Nat} (h : s.l = (i : Int)) : lvS [s] i = [s] := by simp [lvS, h]
theorem lvS_other {s : Sq} {i : Nat} (h : s.l ≠ (i : Int)) : lvS [s] i = [] := by simp [lvS, h]
theorem sort_lvS (L : List Sq) (i : Nat) : sortS (lvS L i) = rowS L i := rfl
/-- the lists of the lower levels, one behind the other -/
def uptoS (L : List Sq) (i : Nat) : List Sq := (List.range i).flatMap (rowS L)
theorem uptoS_zero (L : List Sq) : uptoS L 0 = [] := rfl
theorem uptoS_next (L : List Sq) (i : Nat) : uptoS L (i + 1) = uptoS L i ++ sortS (lvS L i) := by
  unfold uptoS; rw [List.range_succ, List.flatMap_append]; simp [sort_lvS]
theorem uptoS_end (t : Tr) : uptoS (sqs t wholeS) 11 = listT t := rfl
theorem lvS_len (L : List Sq) (i : Nat) : (lvS L i).length ≤ L.length := List.length_filter_le _ _
/-- a tree of depth n has no more than 4 ^ n squares -/
theorem sqs_len : ∀ (t : Tr) (s : Sq) (n : Nat), Fit t n → (sqs t s).length ≤ 4 ^ n
  | .leaf b, s, n, _ => by
    have : 1 ≤ 4 ^ n := Nat.one_le_pow _ _ (by omega)
    cases b <;> simp [sqs] <;> omega
  | .node a b c d, s, n, h => by
    obtain ⟨h1, ha, hb, hc, hd⟩ := h
    obtain ⟨m, rfl⟩ : ∃ m, n = m + 1 := ⟨n - 1, by omega⟩
    simp only [Nat.add_sub_cancel] at ha hb hc hd
    have := sqs_len a (k0 s) m ha
    have := sqs_len b (k1 s) m hb
    have := sqs_len c (k2 s) m hc
    have := sqs_len d (k3 s) m hd
    simp only [sqs, List.length_append]
    rw [Nat.pow_succ]
    omega
end Go.Proofs.YtabolonlkocopaaGreatDoor

/- Eleven rows of squares of the call's own, their slices in a block of the call's own: what gather fills. -/
namespace Go.Proofs.YtabolonlkocopaaGreatDoor
open Go.RowKit Go.Plc

theorem grownBy_setCell2 (W : World) (b i : Nat) (v : Value) : W.grownBy (W.setCell ⟨b, i, none⟩ v) (some b) :=
  ⟨rfl, rfl, rfl, Nat.le_of_eq (by simp), fun k _ hne => heap_setCell_other W ⟨b, i, none⟩ k v fun h => hne (by rw [h])⟩
/-- the block gB holds eleven slices, the i-th of which is a row of the call's own that holds the squares of level i of L -/
structure ByI (M gB : Nat) (f : Nat → Value) (L : List Sq) (X : World) : Prop where
  low : M ≤ gB
  box : X.heap[gB]? = some (.cells #[f 0, f 1, f 2, f 3, f 4, f 5, f 6, f 7, f 8, f 9, f 10] 22)
  row : ∀ i, i < 11 → X.ownsRow M 31 3 (f i) (lvS L i).length (cellsOf (lvS L i))
  off : ∀ i, i < 11 → (f i).ownBlock ≠ some gB
  two : ∀ i j, i < 11 → j < 11 → i ≠ j → (f i).ownBlock = none ∨ (f i).ownBlock ≠ (f j).ownBlock
/-- behind the append: the row of level k has grown, the block still holds the old slice -/
structure ByA (M gB k : Nat) (f : Nat → Value) (v : Value) (L : List Sq) (s : Sq) (X : World) : Prop where
  low : M ≤ gB
  box : X.heap[gB]? = some (.cells #[f 0, f 1, f 2, f 3, f 4, f 5, f 6, f 7, f 8, f 9, f 10] 22)
  row : ∀ i, i < 11 → i ≠ k → X.ownsRow M 31 3 (f i) (lvS L i).length (cellsOf (lvS L i))
  new : X.ownsRow M 31 3 v ((lvS L k).length + 1) (cellsOf (lvS L k ++ [s]))
  off : ∀ i, i < 11 → (f i).ownBlock ≠ some gB
  offN : v.ownBlock ≠ some gB
  two : ∀ i j, i < 11 → j < 11 → i ≠ j → (f i).ownBlock = none ∨ (f i).ownBlock ≠ (f j).ownBlock
  twoN : ∀ i, i < 11 → i ≠ k → (f i).ownBlock = none ∨ (f i).ownBlock ≠ v.ownBlock
theorem ByI.slice {M gB i : Nat} {f : Nat → Value} {L : List Sq} {X : World} (h : ByI M gB f L X) (hi : i < 11) : X.cell? ⟨gB, i, none⟩ = some (f i) := by
  have hb := h.box
  rcases (show i = 0 ∨ i = 1 ∨ i = 2 ∨ i = 3 ∨ i = 4 ∨ i = 5 ∨ i = 6 ∨ i = 7 ∨ i = 8 ∨ i = 9 ∨ i = 10 by omega) with rfl | rfl | rfl | rfl | rfl | rfl | rfl | rfl | rfl | rfl | rfl <;> simp [World.cell?, hb]
theorem ByI.lt {M gB : Nat} {f : Nat → Value} {L : List Sq} {X : World} (h : ByI M gB f L X) : gB < X.heap.size := (Array.getElem?_eq_some_iff.1 h.box).1
theorem ByI.grown {M gB : Nat} {f : Nat → Value} {L : List Sq} {X Y : World} (h : ByI M gB f L X) (hg : X.grownBy Y none) : ByI M gB f L Y :=
  ⟨h.low, (hg.block gB h.lt (by simp)).trans h.box, fun i hi => (h.row i hi).kept hg (by cases (f i).ownBlock <;> simp), h.off, h.two⟩
theorem ByI.step {M gB : Nat} {f : Nat → Value} {L : List Sq} {X Y : World} (h : ByI M gB f L X) (hb : Below X.heap.size X Y) : ByI M gB f L Y :=
  ⟨h.low, (hb.block gB h.lt).trans h.box, fun i hi => own_stepJ (h.row i hi) hb, h.off, h.two⟩
theorem ByI.append {M gB k : Nat} {f : Nat → Value} {L : List Sq} {s : Sq} {X Y : World} {v : Value} (h : ByI M gB f L X) (hk : k < 11) (hg : X.grownBy Y (f k).ownBlock) (ho : Y.ownsRow M 31 3 v ((lvS L k).length + 1) (cellsOf (lvS L k) ++ [.int .i64 s.l, .int .i64 s.x, .int .i64 s.y]))
    (hob : v.ownBlock = (f k).ownBlock ∨ v.ownBlock = some X.heap.size) : ByA M gB k f v L s Y := by
  refine ⟨h.low, (hg.block gB h.lt fun e => h.off k hk e.symm).trans h.box, fun i hi hik => (h.row i hi).kept hg (h.two i k hi hk hik), by rw [cells_snoc]; exact ho, h.off, ?_, h.two, fun i hi hik => ?_⟩
  · rcases hob with e | e
    · rw [e]; exact h.off k hk
    · rw [e]; intro e2; injection e2 with e2; have := h.lt; omega
  · rcases hob with e | e
    · rw [e]; exact h.two i k hi hk hik
    · rw [e]
      refine .inr fun e2 => ?_
      have := ((h.row i hi).lt _ e2).2
      omega
/-- the slices, one of them put anew -/
def putF (f : Nat → Value) (k : Nat) (v : Value) : Nat → Value := fun i => if i = k then v else f i
theorem ByA.store {M gB k : Nat} {f : Nat → Value} {L : List Sq} {s : Sq} {X : World} {v : Value} (h : ByA M gB k f v L s X) (hk : k < 11) (hs : s.l = (k : Int)) : ByI M gB (putF f k v) (L ++ [s]) (X.setCell ⟨gB, k, none⟩ v) := by
  have hg := grownBy_setCell2 X gB k v
  refine ⟨h.low, ?_, fun i hi => ?_, fun i hi => ?_, fun i j hi hj hij => ?_⟩
  · rw [heap_setCell_same X gB k _ _ v h.box]
    rcases (show k = 0 ∨ k = 1 ∨ k = 2 ∨ k = 3 ∨ k = 4 ∨ k = 5 ∨ k = 6 ∨ k = 7 ∨ k = 8 ∨ k = 9 ∨ k = 10 by omega) with rfl | rfl | rfl | rfl | rfl | rfl | rfl | rfl | rfl | rfl | rfl <;> rfl
  · unfold putF
    by_cases hik : i = k
    · subst hik
      rw [if_pos rfl, lvS_append, lvS_self hs, List.length_append]
      exact h.new.kept hg (.inr h.offN)
    · rw [if_neg hik, lvS_append, lvS_other (by rw [hs]; omega), List.append_nil]
      exact (h.row i hi hik).kept hg (.inr (h.off i hi))
  · unfold putF
    split
    · exact h.offN
    · exact h.off i hi
  · unfold putF
    by_cases hik : i = k
    · subst hik
      rw [if_pos rfl, if_neg (Ne.symm hij)]
      rcases h.twoN j hj (Ne.symm hij) with e | e
      · rw [e]
        cases v.ownBlock
        · exact .inl rfl
        · exact .inr (by simp)
      · exact .inr (Ne.symm e)
    · rw [if_neg hik]
      by_cases hjk : j = k
      · subst hjk
        rw [if_pos rfl]
        exact h.twoN i hi hik
      · rw [if_neg hjk]
        exact h.two i j hi hj hij
/-- a fresh block of eleven empty slices -/
theorem ByI.start (M gB : Nat) (X : World) (hM : M ≤ gB) (hb : X.heap[gB]? = some (.cells #[.slice none 0 0, .slice none 0 0, .slice none 0 0, .slice none 0 0, .slice none 0 0, .slice none 0 0, .slice none 0 0, .slice none 0 0, .slice none 0 0, .slice none 0 0, .slice none 0 0] 22)) : ByI M gB (fun _ => .slice none 0 0) [] X :=
  ⟨hM, hb, fun _ _ => World.ownsRow_nil _ _ _ _, fun _ _ h => (by cases h), fun _ _ _ _ _ => .inl rfl⟩

/-- what gathering may change: the block of slices and the rows -/
structure ByR (M gB : Nat) (f f' : Nat → Value) (X Y : World) : Prop where
  bel : Below M X Y
  keep : ∀ k, k < X.heap.size → k ≠ gB → (∀ i, i < 11 → (f i).ownBlock ≠ some k) → Y.heap[k]? = X.heap[k]?
  own : ∀ i, i < 11 → (f' i).ownBlock = (f i).ownBlock ∨ ∃ r, X.heap.size ≤ r ∧ (f' i).ownBlock = some r
theorem ByR.refl (M gB : Nat) (f : Nat → Value) (X : World) : ByR M gB f f X X := ⟨Below.refl _ _, fun _ _ _ _ => rfl, fun _ _ => .inl rfl⟩
theorem ByR.trans {M gB : Nat} {f f1 f2 : Nat → Value} {X Y Z : World} (h : ByR M gB f f1 X Y) (h2 : ByR M gB f1 f2 Y Z) : ByR M gB f f2 X Z := by
  have hs := h.bel.size
  refine ⟨h.bel.trans h2.bel, fun k hk hb ho => ?_, fun i hi => ?_⟩
  · refine (h2.keep k (by omega) hb fun i hi e => ?_).trans (h.keep k hk hb ho)
    rcases h.own i hi with e2 | ⟨r, hr, e2⟩
    · exact ho i hi (e2 ▸ e)
    · rw [e2] at e; injection e with e; omega
  · rcases h2.own i hi with e | ⟨r, hr, e⟩
    · rcases h.own i hi with e2 | ⟨r, hr, e2⟩
      · exact .inl (e.trans e2)
      · exact .inr ⟨r, hr, e.trans e2⟩
    · exact .inr ⟨r, by omega, e⟩
theorem ByR.step {M gB : Nat} {f : Nat → Value} {X Y : World} (hM : M ≤ X.heap.size) (h : Below X.heap.size X Y) : ByR M gB f f X Y := ⟨h.mono hM, fun k hk _ _ => h.block k hk, fun _ _ => .inl rfl⟩
/-- a block of this kind stays as it is -/
theorem ByR.same {M gB g : Nat} {f f' : Nat → Value} {X Y : World} {o : Obj} (h : ByR M gB f f' X Y) (ho : X.heap[g]? = some o) (hb : g ≠ gB) (hf : ∀ i, i < 11 → (f i).ownBlock ≠ some g) : Y.heap[g]? = some o :=
  (h.keep g (Array.getElem?_eq_some_iff.1 ho).1 hb hf).trans ho
theorem ByI.other {M gB g : Nat} {f : Nat → Value} {L : List Sq} {X : World} (h : ByI M gB f L X) (hg : X.heap.size ≤ g) : g ≠ gB ∧ ∀ i, i < 11 → (f i).ownBlock ≠ some g :=
  ⟨by have := h.lt; omega, fun i hi e => by have := ((h.row i hi).lt _ e).2; omega⟩
theorem ByI.low_other {M gB g : Nat} {f : Nat → Value} {L : List Sq} {X : World} (h : ByI M gB f L X) (hg : g < M) : g ≠ gB ∧ ∀ i, i < 11 → (f i).ownBlock ≠ some g :=
  ⟨by have := h.low; omega, fun i hi e => by have := ((h.row i hi).lt _ e).1; omega⟩
theorem ByI.tree {M gB : Nat} {f f' : Nat → Value} {L : List Sq} {X Y : World} {t : Tr} {v : Value} (h : ByI M gB f L X) (hr : ByR M gB f f' X Y) (ht : TreeAt X (fun k => k < M) t v) : TreeAt Y (fun k => k < M) t v :=
  ht.keep hr.bel.size fun k hk hp => hr.keep k hk (h.low_other hp).1 (h.low_other hp).2
theorem ByI.big {M gB : Nat} {f : Nat → Value} {L : List Sq} {X : World} (h : ByI M gB f L X) : M ≤ X.heap.size := by have := h.low; have := h.lt; omega

theorem rkids_new (s : Sq) (w : World) (h : s.okB = true) :
    Calls Tryz.prog 100 #[.agg #[.int .i64 s.l, .int .i64 s.x, .int .i64 s.y]] w fun e w' => (∃ v, e = .returned v ∧ NewSqs w.heap.size w' v (kidsS s)) ∧ Below w.heap.size w w' := by
  obtain ⟨h1, h2, h3, h4, h5, h6⟩ := (Sq.okB_iff s).1 h
  have hs := side_le s.l h1
  clear h
  go_enter Tryz.func100, Tryz.ntmps100
  go_wp2_with fail
  go_ret
  refine ⟨⟨_, rfl, w.heap.size + 5, 4, rfl, by omega, by simp, ?_⟩, by (repeat (first | exact Below.refl _ _ | refine Below.drew ?_ | refine below_drewN ?_ _ | refine Below.alloc ?_ (by simp; try omega) _ | refine Below.setCell ?_ (by simp; try omega) _))⟩
  unfold kidsS
  intro i t hi
  match i, hi with
  | 0, hi => simp at hi; subst hi; exact ⟨new_cells _ _ (by simp) _ _, new_cells _ _ (by simp) _ _, new_cells _ _ (by simp) _ _⟩
  | 1, hi => simp at hi; subst hi; exact ⟨new_cells _ _ (by simp) _ _, new_cells _ _ (by simp) _ _, new_cells _ _ (by simp) _ _⟩
  | 2, hi => simp at hi; subst hi; exact ⟨new_cells _ _ (by simp) _ _, new_cells _ _ (by simp) _ _, new_cells _ _ (by simp) _ _⟩
  | 3, hi => simp at hi; subst hi; exact ⟨new_cells _ _ (by simp) _ _, new_cells _ _ (by simp) _ _, new_cells _ _ (by simp) _ _⟩
end Go.Proofs.YtabolonlkocopaaGreatDoor

/- A region that draws its order, by what is done: 'G dn' holds all along, 'dn' says which operations are done. (XFact's law for regions that write: there the operation that comes must be known not to be done yet.) -/
namespace Go.Proofs.YtabolonlkocopaaGreatDoor
open Go

section
variable {P : Program} {ops : Array Oper} {Q : Exit → Act → World → Prop}
/-- one more operation is done -/
def andB (dn : Nat → Bool) (i : Nat) : Nat → Bool := fun j => j == i || dn j
theorem wpAny_done (G : (Nat → Bool) → Act → World → Prop) (hb : backB ops = true)
    (hstep : ∀ dn i o, ops[i]? = some o → dn i = false → (∀ e ∈ o.after, Region.binds .any e = true → dn e.on = true) → ∀ a w, G dn a w → wpOp P ops Q i (fun a' w' => G (andB dn i) a' w') a w)
    (hend : ∀ dn a w, (∀ j, j < ops.size → dn j = true) → G dn a w → Q .normal a w) :
    ∀ (fuel : Nat) (listed : Array Bool) (a : Act) (w : World), listed.size = ops.size → leftOf listed.toList ≤ fuel → G (fun j => listed.getD j false) a w → wpAny P .any ops Q fuel listed a w := by
  intro fuel
  induction fuel with
  | zero =>
    intro listed a w hs hf hG
    have hnil : Region.ready .any ops listed = [] := by
      cases hr : Region.ready .any ops listed with
      | nil => rfl
      | cons i rs =>
        have hm : i ∈ Region.ready .any ops listed := by rw [hr]; exact List.mem_cons_self
        obtain ⟨h0, o, ho, _⟩ := mem_ready.1 hm
        have hi : i < listed.size := by rw [hs]; exact (Array.getElem?_eq_some_iff.1 ho).1
        have := leftOf_pos (l := listed.toList) (i := i) (by simp [hi] at h0 ⊢; exact h0)
        omega
    exact ⟨hnil, hend _ a w (ready_none hb hs hnil) hG⟩
  | succ fuel ih =>
    intro listed a w hs hf hG
    refine ⟨fun hnil => hend _ a w (ready_none hb hs hnil) hG, fun i hm => ?_⟩
    obtain ⟨h0, o, ho, hall⟩ := mem_ready.1 hm
    have hi : i < listed.size := by rw [hs]; exact (Array.getElem?_eq_some_iff.1 ho).1
    have hi0 : listed.getD i false = false := by simp [hi] at h0 ⊢; exact h0
    refine wpOp_mono (fun a' w' h => ?_) (hstep _ i o ho hi0 (fun e he hbd => hall e he hbd) a w hG)
    refine ih _ a' w' (by simpa using hs) ?_ ?_
    · have := leftOf_set listed.toList i (by simp [hi] at h0 ⊢; exact h0)
      rw [Array.toList_setIfInBounds]
      omega
    · have e : (fun j => (listed.setIfInBounds i true).getD j false) = andB (fun j => listed.getD j false) i := by
        funext j
        unfold andB
        by_cases hji : j = i
        · subst hji
          simp [hi]
        · have : (j == i) = false := by simpa using hji
          rw [this, Bool.false_or]
          by_cases hj : j < listed.size
          · simp [hj, Ne.symm hji]
          · simp [hj]
      rw [e]; exact h
/-- the law -/
theorem wp_region_done {id : Nat} {a : Act} {w : World} (G : (Nat → Bool) → Act → World → Prop) (hm : P.follows .mixedOrders = true) (hb : backB ops = true)
    (hG : G (fun _ => false) a w.drew)
    (hstep : ∀ dn i o, ops[i]? = some o → dn i = false → (∀ e ∈ o.after, Region.binds .any e = true → dn e.on = true) → ∀ a w, G dn a w → wpOp P ops Q i (fun a' w' => G (andB dn i) a' w') a w)
    (hend : ∀ dn a w, (∀ j, j < ops.size → dn j = true) → G dn a w → Q .normal a w) : (Code.region id ops true).wp P Q a w :=
  wp_region_any hm (wpAny_done G hb hstep hend ops.size _ a _ (by simp) (by simp [leftOf]) (by
    have e : (fun j => (Array.replicate ops.size false).getD j false) = fun _ => false := by
      funext j
      by_cases hj : j < ops.size <;> simp [hj]
    rw [e]; exact hG))
end
open Go.RowKit Go.Plc
/-- a square is appended to a row of squares of the call's own -/
theorem append_sq {o : Oper} {a : Act} {w : World} {K : Act → World → Prop} {Q : Exit → Act → World → Prop} (s x : Operand) (ho : o.op = .call { callee := .builtin .append, args := #[s, x], argTypes := #[22, 22] })
    (M n : Nat) (v : Value) (L : List Sq) (q : Sq) (hs : a.eval s = v) (hown : w.ownsRow M 31 3 v n (cellsOf L)) (g : Nat) (hx : a.eval x = .slice (some ⟨g, 0, none⟩) 1 1) (hc : w.heap[g]? = some (.cells #[.int .i64 q.l, .int .i64 q.x, .int .i64 q.y] 31)) (hn : n ≤ 2000000) (hM : M ≤ w.heap.size)
    (h : ∀ v' w', w'.ownsRow M 31 3 v' (n + 1) (cellsOf L ++ [.int .i64 q.l, .int .i64 q.x, .int .i64 q.y]) → w.grownBy w' v.ownBlock → (v'.ownBlock = v.ownBlock ∨ v'.ownBlock = some w.heap.size) → K (a.put o.dst v') w') : o.wp Tryz.prog a w K Q := by
  obtain ⟨i0, hi0, hz0, hz1, hz2⟩ := info_parts infoSq
  obtain ⟨v', w', hr, h2, h3, _, h5⟩ := run_append_own_at (P := Tryz.prog) (w := w) M 22 o.type 31 i0 (.agg #[.int .i64 0, .int .i64 0, .int .i64 0]) 3 24 Tryz.underlying22 hi0 hz0 hz1 hz2 rfl (by decide) v n (cellsOf L) hown ⟨g, 0, none⟩ 1 1 [.int .i64 q.l, .int .i64 q.x, .int .i64 q.y] rfl
    (fun j u hj => by
      have e : (⟨g, 0, none⟩ : Addr).add j = ⟨g, j, none⟩ := by
        unfold Addr.add
        split
        · rename_i h; rw [h]
        · simp
      rw [e]
      simpa [World.cell?, hc] using hj) (fun u hu => by simp at hu; rcases hu with rfl | rfl | rfl <;> rfl) (by unfold maxLen; omega) (by omega) hM
  unfold Oper.wp execOp
  simp only [ho, resolve, invoke, builtin, Sem.run_bind, Sem.run_pure, Result.andThen_ok, List.map_toArray, List.map_cons, List.map_nil, hs, hx, hr]
  exact h v' w' h2 h3 h5
end Go.Proofs.YtabolonlkocopaaGreatDoor

/- The reference's gather. -/
namespace Go.Proofs.YtabolonlkocopaaGreatDoor
open Go.RowKit Go.Plc

set_option maxRecDepth 100000 in
set_option maxHeartbeats 8000000 in
theorem gather_none (s : Sq) (v : Value) (M gB : Nat) (f : Nat → Value) (L : List Sq) (X : World) (hs : s.okB = true) (ht : TreeAt X (fun k => k < M) (.leaf false) v) (hB : ByI M gB f L X) :
    Calls Tryz.prog 89 #[v, .agg #[.int .i64 s.l, .int .i64 s.x, .int .i64 s.y], .slice (some ⟨gB, 0, none⟩) 11 11] X fun e Y => e = .returned (.tuple #[]) ∧ ∃ f', ByI M gB f' (L ++ sqs (.leaf false) s) Y ∧ ByR M gB f f' X Y := by
  have HS := Lib.hid hs
  have HB := Lib.hid hB
  obtain ⟨gt, rfl, hgM, hgt⟩ := ht
  have HT := Lib.hid (And.intro hgM hgt)
  clear hs hB hgM
  have hg2 : (X.alloc (.cells #[.int .i64 s.l, .int .i64 s.x, .int .i64 s.y] 31)).heap[gt]? = some (.cells #[.bool false, .slice none 0 0] 113) := ((below_new _).block gt (Array.getElem?_eq_some_iff.1 hgt).1).trans hgt
  obtain ⟨c0, c1⟩ := cells_two hg2
  clear hgt hg2
  have HX := Lib.hid (show Below X.heap.size X (X.alloc (.cells #[.int .i64 s.l, .int .i64 s.x, .int .i64 s.y] 31)) from below_new _)
  go_enter Tryz.func89, Tryz.ntmps89
  go_wp2_with fail
  refine (rkids_new s _ HS.out).mono ?_
  rintro e W ⟨⟨cv, rfl, hk⟩, hb⟩
  have HR := Lib.hid (HX.out.trans (hb.mono HX.out.size))
  obtain ⟨d0, d1⟩ := cells_two ((HR.out.block gt (Array.getElem?_eq_some_iff.1 HT.out.2).1).trans HT.out.2)
  clear hb hk c0 c1
  go_wp2_with fail
  go_loopw [7] (fun k wr => k = .int .i64 0 ∧ wr = W) (fun _ _ => 0)
  case atStart => exact ⟨rfl, rfl⟩
  case round =>
    obtain ⟨rfl, rfl⟩ := hrel
    go_wp2_with fail
    go_end0
    refine ⟨rfl, f, ?_, ByR.step HB.out.big HR.out⟩
    simpa [sqs] using HB.out.step HR.out
theorem ByA.slice {M gB k i : Nat} {f : Nat → Value} {v : Value} {L : List Sq} {s : Sq} {X : World} (h : ByA M gB k f v L s X) (hi : i < 11) : X.cell? ⟨gB, i, none⟩ = some (f i) := by
  have hb := h.box
  rcases (show i = 0 ∨ i = 1 ∨ i = 2 ∨ i = 3 ∨ i = 4 ∨ i = 5 ∨ i = 6 ∨ i = 7 ∨ i = 8 ∨ i = 9 ∨ i = 10 by omega) with rfl | rfl | rfl | rfl | rfl | rfl | rfl | rfl | rfl | rfl | rfl <;> simp [World.cell?, hb]
theorem ByR.append {M gB k : Nat} {f : Nat → Value} {X0 X Y : World} {v : Value} {L : List Sq} (h : ByR M gB f f X0 X) (hI : ByI M gB f L X) (hk : k < 11) (hg : X.grownBy Y (f k).ownBlock) (hob : v.ownBlock = (f k).ownBlock ∨ v.ownBlock = some X.heap.size) : ByR M gB f (putF f k v) X0 Y := by
  refine ⟨h.bel.grown hg hI.big fun r e => ((hI.row k hk).lt r e).1, fun j hj hb ho => ?_, fun i hi => ?_⟩
  · exact (hg.block j (Nat.lt_of_lt_of_le hj h.bel.size) fun e => ho k hk e.symm).trans (h.keep j hj hb ho)
  · unfold putF
    split
    · rename_i e
      subst e
      rcases hob with e2 | e2
      · exact .inl e2
      · exact .inr ⟨_, h.bel.size, e2⟩
    · exact .inl rfl
theorem ByR.store {M gB k : Nat} {f f' : Nat → Value} {X0 X : World} {v : Value} (h : ByR M gB f f' X0 X) (hM : M ≤ gB) : ByR M gB f f' X0 (X.setCell ⟨gB, k, none⟩ v) :=
  ⟨h.bel.setCell hM v, fun j hj hb ho => (heap_setCell_other X ⟨gB, k, none⟩ j v hb).trans (h.keep j hj hb ho), h.own⟩
theorem ByR.alloc {M gB : Nat} {f f' : Nat → Value} {X0 X : World} (h : ByR M gB f f' X0 X) (hM : M ≤ X.heap.size) (o : Obj) : ByR M gB f f' X0 (X.alloc o) :=
  ⟨h.bel.trans ((below_new o).mono hM), fun j hj hb ho => ((below_new o).block j (Nat.lt_of_lt_of_le hj h.bel.size)).trans (h.keep j hj hb ho), h.own⟩
theorem arr48 {t : Array Value} (h : t.size = 48) : ∃ f : Nat → Value, t = #[f 0, f 1, f 2, f 3, f 4, f 5, f 6, f 7, f 8, f 9, f 10, f 11, f 12, f 13, f 14, f 15, f 16, f 17, f 18, f 19, f 20, f 21, f 22, f 23, f 24, f 25, f 26, f 27, f 28, f 29, f 30, f 31, f 32, f 33, f 34, f 35, f 36, f 37, f 38, f 39, f 40, f 41, f 42, f 43, f 44, f 45, f 46, f 47] := by
  refine ⟨fun k => t.getD k undef, ?_⟩
  apply Array.ext
  · simpa using h
  · intro i h1 h2
    have : i < 48 := by omega
    have hi : i = 0 ∨ i = 1 ∨ i = 2 ∨ i = 3 ∨ i = 4 ∨ i = 5 ∨ i = 6 ∨ i = 7 ∨ i = 8 ∨ i = 9 ∨ i = 10 ∨ i = 11 ∨ i = 12 ∨ i = 13 ∨ i = 14 ∨ i = 15 ∨ i = 16 ∨ i = 17 ∨ i = 18 ∨ i = 19 ∨ i = 20 ∨ i = 21 ∨ i = 22 ∨ i = 23 ∨ i = 24 ∨ i = 25 ∨ i = 26 ∨ i = 27 ∨ i = 28 ∨ i = 29 ∨ i = 30 ∨ i = 31 ∨ i = 32 ∨ i = 33 ∨ i = 34 ∨ i = 35 ∨ i = 36 ∨ i = 37 ∨ i = 38 ∨ i = 39 ∨ i = 40 ∨ i = 41 ∨ i = 42 ∨ i = 43 ∨ i = 44 ∨ i = 45 ∨ i = 46 ∨ i = 47 := by omega
    rcases hi with rfl | rfl | rfl | rfl | rfl | rfl | rfl | rfl | rfl | rfl | rfl | rfl | rfl | rfl | rfl | rfl | rfl | rfl | rfl | rfl | rfl | rfl | rfl | rfl | rfl | rfl | rfl | rfl | rfl | rfl | rfl | rfl | rfl | rfl | rfl | rfl | rfl | rfl | rfl | rfl | rfl | rfl | rfl | rfl | rfl | rfl | rfl | rfl <;> simp [Array.getD, h]
/-- what holds while a square is put into its row -/
structure GaG (M gB gS gt k : Nat) (f : Nat → Value) (L : List Sq) (s : Sq) (X0 : World) (dn : Nat → Bool) (a : Act) (X : World) : Prop where
  sz : a.tmps.size = 48
  t0 : a.tmps.getD 0 undef = .pointer (some ⟨gt, 0, none⟩)
  t2 : a.tmps.getD 2 undef = .slice (some ⟨gB, 0, none⟩) 11 11
  t4 : a.tmps.getD 4 undef = .pointer (some ⟨gS, 0, none⟩)
  ds : a.defers = []
  box : X.heap[gS]? = some (.cells #[.int .i64 s.l, .int .i64 s.x, .int .i64 s.y] 31)
  e0 : dn 0 = true → a.tmps.getD 12 undef = .slice (some ⟨gB, 0, none⟩) 11 11
  e1 : dn 1 = true → a.tmps.getD 13 undef = .pointer (some ⟨gS, 0, none⟩)
  e2 : dn 2 = true → a.tmps.getD 14 undef = .int .i64 s.l
  e3 : dn 3 = true → a.tmps.getD 15 undef = .slice (some ⟨gB, 0, none⟩) 11 11
  e4 : dn 4 = true → a.tmps.getD 16 undef = .pointer (some ⟨gS, 0, none⟩)
  e5 : dn 5 = true → a.tmps.getD 17 undef = .int .i64 s.l
  e6 : dn 6 = true → a.tmps.getD 18 undef = .pointer (some ⟨gB, k, none⟩)
  e7 : dn 7 = true → a.tmps.getD 19 undef = f k
  e8 : dn 8 = true → a.tmps.getD 20 undef = .agg #[.int .i64 s.l, .int .i64 s.x, .int .i64 s.y]
  e9 : dn 9 = true → dn 10 = false → ∃ g, a.tmps.getD 21 undef = .slice (some ⟨g, 0, none⟩) 1 1 ∧ X.heap[g]? = some (.cells #[.int .i64 s.l, .int .i64 s.x, .int .i64 s.y] 31)
  e11 : dn 11 = true → a.tmps.getD 23 undef = .pointer (some ⟨gB, k, none⟩)
  o10 : dn 10 = true → dn 7 = true ∧ dn 9 = true
  o12 : dn 12 = true → dn 10 = true
  pre : dn 10 = false → ByI M gB f L X ∧ ByR M gB f f X0 X
  mid : dn 10 = true → dn 12 = false → ByA M gB k f (a.tmps.getD 22 undef) L s X ∧ ByR M gB f (putF f k (a.tmps.getD 22 undef)) X0 X
  fin : dn 12 = true → ∃ f', ByI M gB f' (L ++ [s]) X ∧ ByR M gB f f' X0 X
set_option maxRecDepth 100000 in
set_option maxHeartbeats 8000000 in
theorem gather_all (s : Sq) (v : Value) (M gB k : Nat) (f : Nat → Value) (L : List Sq) (X : World) (hs : s.okB = true) (hk : s.l = (k : Int)) (hn : L.length ≤ 1999999) (ht : TreeAt X (fun k => k < M) (.leaf true) v) (hB : ByI M gB f L X) :
    Calls Tryz.prog 89 #[v, .agg #[.int .i64 s.l, .int .i64 s.x, .int .i64 s.y], .slice (some ⟨gB, 0, none⟩) 11 11] X fun e Y => e = .returned (.tuple #[]) ∧ ∃ f', ByI M gB f' (L ++ sqs (.leaf true) s) Y ∧ ByR M gB f f' X Y := by
  have HS := Lib.hid hs
  have HB := Lib.hid hB
  have HK := Lib.hid hk
  have HN := Lib.hid hn
  obtain ⟨gt, rfl, hgM, hgt⟩ := ht
  have HT := Lib.hid (And.intro hgM hgt)
  clear hs hB hgM hk hn
  have hg2 : (X.alloc (.cells #[.int .i64 s.l, .int .i64 s.x, .int .i64 s.y] 31)).heap[gt]? = some (.cells #[.bool true, .slice none 0 0] 113) := ((below_new _).block gt (Array.getElem?_eq_some_iff.1 hgt).1).trans hgt
  obtain ⟨c0, c1⟩ := cells_two hg2
  clear hgt hg2
  have HX := Lib.hid (show Below X.heap.size X (X.alloc (.cells #[.int .i64 s.l, .int .i64 s.x, .int .i64 s.y] 31)) from below_new _)
  go_enter Tryz.func89, Tryz.ntmps89
  go_wp2_with fail
  have hS := HB.out.other (g := X.heap.size) (Nat.le_refl _)
  have hk11 : k < 11 := by have := ok_l HS.out; have := HK.out; omega
  have hk11i : (k : Int) < 11 := by omega
  refine wp_mono (Q := onlyN (fun a' Y => a'.tmps.size = 48 ∧ a'.tmps.getD 0 undef = .pointer (some ⟨gt, 0, none⟩) ∧ a'.tmps.getD 4 undef = .pointer (some ⟨X.heap.size, 0, none⟩) ∧ a'.defers = [] ∧ Y.heap[X.heap.size]? = some (.cells #[.int .i64 s.l, .int .i64 s.x, .int .i64 s.y] 31) ∧ ∃ f', ByI M gB f' (L ++ [s]) Y ∧ ByR M gB f f' X Y)) ?_ ?_
  · refine wp_region_done (GaG M gB X.heap.size gt k f L s X) (by kernel_rfl) (by kernel_rfl) ?_ ?_ ?_
    · exact ⟨rfl, rfl, rfl, rfl, rfl, World.alloc_heap_new X _, (fun h => nomatch h), (fun h => nomatch h), (fun h => nomatch h), (fun h => nomatch h), (fun h => nomatch h), (fun h => nomatch h), (fun h => nomatch h), (fun h => nomatch h), (fun h => nomatch h), (fun h => nomatch h), (fun h => nomatch h), (fun h => nomatch h), (fun h => nomatch h), fun _ => ⟨HB.out.step HX.out.drew, ByR.step HB.out.big HX.out.drew⟩, (fun h => nomatch h), (fun h => nomatch h)⟩
    · intro dn i o hi hd hD a Y hG
      obtain ⟨tm, ds⟩ := a
      obtain ⟨hsz, t0, t2, t4, hds, box, e0, e1, e2, e3, e4, e5, e6, e7, e8, e9, e11, o10, o12, pre, mid, fin⟩ := hG
      obtain ⟨fn, rfl⟩ := arr48 hsz
      have hi13 : i < 13 := by
        have := (Array.getElem?_eq_some_iff.1 hi).1
        simpa using this
      simp [Array.getD] at t0 t2 t4
      obtain ⟨q0, q1, q2⟩ := sq_cells (s := s) box
      rcases (show i = 0 ∨ i = 1 ∨ i = 2 ∨ i = 3 ∨ i = 4 ∨ i = 5 ∨ i = 6 ∨ i = 7 ∨ i = 8 ∨ i = 9 ∨ i = 10 ∨ i = 11 ∨ i = 12 by omega) with rfl | rfl | rfl | rfl | rfl | rfl | rfl | rfl | rfl | rfl | rfl | rfl | rfl
      · obtain rfl := Option.some.inj hi
        refine wpOp_bare hi rfl ?_
        go_simp
        exact ⟨rfl, rfl, rfl, rfl, hds, box, fun _ => rfl, e1, e2, e3, e4, e5, e6, e7, e8, e9, e11, o10, o12, pre, mid, fin⟩
      · obtain rfl := Option.some.inj hi
        refine wpOp_bare hi rfl ?_
        go_simp
        exact ⟨rfl, rfl, rfl, rfl, hds, box, e0, fun _ => rfl, e2, e3, e4, e5, e6, e7, e8, e9, e11, o10, o12, pre, mid, fin⟩
      · obtain rfl := Option.some.inj hi
        have d1 := e1 (hD ⟨1, .data⟩ (by simp) rfl)
        simp [Array.getD] at d1
        refine wpOp_bare hi rfl ?_
        go_simp
        exact ⟨rfl, rfl, rfl, rfl, hds, box, e0, fun _ => rfl, fun _ => rfl, e3, e4, e5, e6, e7, e8, e9, e11, o10, o12, pre, mid, fin⟩
      · obtain rfl := Option.some.inj hi
        refine wpOp_bare hi rfl ?_
        go_simp
        exact ⟨rfl, rfl, rfl, rfl, hds, box, e0, e1, e2, fun _ => rfl, e4, e5, e6, e7, e8, e9, e11, o10, o12, pre, mid, fin⟩
      · obtain rfl := Option.some.inj hi
        refine wpOp_bare hi rfl ?_
        go_simp
        exact ⟨rfl, rfl, rfl, rfl, hds, box, e0, e1, e2, e3, fun _ => rfl, e5, e6, e7, e8, e9, e11, o10, o12, pre, mid, fin⟩
      · obtain rfl := Option.some.inj hi
        have d4 := e4 (hD ⟨4, .data⟩ (by simp) rfl)
        simp [Array.getD] at d4
        refine wpOp_bare hi rfl ?_
        go_simp
        exact ⟨rfl, rfl, rfl, rfl, hds, box, e0, e1, e2, e3, fun _ => rfl, fun _ => rfl, e6, e7, e8, e9, e11, o10, o12, pre, mid, fin⟩
      · obtain rfl := Option.some.inj hi
        have d3 := e3 (hD ⟨3, .data⟩ (by simp) rfl)
        simp [Array.getD] at d3
        have d5 := e5 (hD ⟨5, .data⟩ (by simp) rfl)
        simp [Array.getD] at d5
        rw [HK.out] at d5
        refine wpOp_bare hi rfl ?_
        go_simp
        exact ⟨rfl, rfl, rfl, rfl, hds, box, e0, e1, e2, fun _ => rfl, e4, (fun _ => by rw [HK.out]; rfl), fun _ => rfl, e7, e8, e9, e11, o10, o12, pre, mid, fin⟩
      · obtain rfl := Option.some.inj hi
        have d6 := e6 (hD ⟨6, .data⟩ (by simp) rfl)
        simp [Array.getD] at d6
        have n10 : dn 10 = false := by
          cases h : dn 10
          · rfl
          · rw [(o10 h).1] at hd; cases hd
        have hc := (pre n10).1.slice hk11
        refine wpOp_bare hi rfl ?_
        go_simp
        exact ⟨rfl, rfl, rfl, rfl, hds, box, e0, e1, e2, e3, e4, e5, fun _ => rfl, fun _ => rfl, e8, e9, e11, fun h => ⟨rfl, (o10 h).2⟩, o12, pre, mid, fin⟩
      · obtain rfl := Option.some.inj hi
        refine wpOp_bare hi rfl ?_
        go_simp
        exact ⟨rfl, rfl, rfl, rfl, hds, box, e0, e1, e2, e3, e4, e5, e6, e7, fun _ => rfl, e9, e11, o10, o12, pre, mid, fin⟩
      · obtain rfl := Option.some.inj hi
        have d8 := e8 (hD ⟨8, .data⟩ (by simp) rfl)
        simp [Array.getD] at d8
        have n10 : dn 10 = false := by
          cases h : dn 10
          · rfl
          · rw [(o10 h).2] at hd; cases hd
        refine wpOp_bare hi rfl ?_
        go_simp
        exact ⟨rfl, rfl, rfl, rfl, hds, ((below_new _).block _ (Array.getElem?_eq_some_iff.1 box).1).trans box, e0, e1, e2, e3, e4, e5, e6, e7, fun _ => rfl, fun _ _ => ⟨_, rfl, World.alloc_heap_new Y _⟩, e11, fun h => ⟨(o10 h).1, rfl⟩, o12, fun _ => ⟨(pre n10).1.step (below_new _), (pre n10).2.alloc (pre n10).1.big _⟩, fun h _ => absurd (n10.symm.trans h) (by decide), fun h => absurd (n10.symm.trans (o12 h)) (by decide)⟩
      · obtain rfl := Option.some.inj hi
        have d7 := e7 (hD ⟨7, .data⟩ (by simp) rfl)
        simp [Array.getD] at d7
        obtain ⟨g9, d9, hb9⟩ := e9 (hD ⟨9, .data⟩ (by simp) rfl) hd
        simp [Array.getD] at d9
        obtain ⟨hI, hR⟩ := pre hd
        refine wpOp_bare hi rfl ?_
        refine append_sq (.tmp 19) (.tmp 21) rfl M (lvS L k).length (f k) (lvS L k) s d7 (hI.row k hk11) g9 d9 hb9 (by have := lvS_len L k; have := HN.out; omega) hI.big ?_
        intro v' w' ho hg hob
        have hbx : w'.heap[X.heap.size]? = some (.cells #[.int .i64 s.l, .int .i64 s.x, .int .i64 s.y] 31) := (hg.block _ (Array.getElem?_eq_some_iff.1 box).1 fun e => hS.2 k hk11 e.symm).trans box
        exact ⟨rfl, t0, t2, t4, hds, hbx, e0, e1, e2, e3, e4, e5, e6, e7, e8, (fun _ h => nomatch h), e11, fun _ => ⟨hD ⟨7, .data⟩ (by simp) rfl, hD ⟨9, .data⟩ (by simp) rfl⟩, fun h => rfl, (fun h => nomatch h), fun _ _ => ⟨hI.append hk11 hg ho hob, hR.append hI hk11 hg hob⟩, fun h => absurd (hd.symm.trans (o12 h)) (by decide)⟩
      · obtain rfl := Option.some.inj hi
        have d0 := e0 (hD ⟨0, .data⟩ (by simp) rfl)
        simp [Array.getD] at d0
        have d2 := e2 (hD ⟨2, .data⟩ (by simp) rfl)
        simp [Array.getD] at d2
        rw [HK.out] at d2
        refine wpOp_bare hi rfl ?_
        go_simp
        exact ⟨rfl, rfl, rfl, rfl, hds, box, fun _ => rfl, e1, (fun _ => by rw [HK.out]; rfl), e3, e4, e5, e6, e7, e8, e9, fun _ => rfl, o10, o12, pre, mid, fin⟩
      · obtain rfl := Option.some.inj hi
        have d11 := e11 (hD ⟨11, .data⟩ (by simp) rfl)
        simp [Array.getD] at d11
        have y10 := hD ⟨10, .data⟩ (by simp) rfl
        obtain ⟨hA, hR⟩ := mid y10 hd
        obtain ⟨Av, cv, ev⟩ := own_form hA.new
        rw [ev] at hA hR
        simp [Array.getD] at ev
        have hc := hA.slice hk11
        have hfz := frozen_row hA.box
        refine wpOp_bare hi rfl ?_
        go_simp
        exact ⟨rfl, rfl, rfl, rfl, hds, (heap_setCell_other Y ⟨gB, k, none⟩ _ _ hS.1).trans box, e0, e1, e2, e3, e4, e5, e6, e7, e8, fun _ h => absurd (y10.symm.trans h) (by decide), fun _ => rfl, o10, fun _ => y10, fun h => absurd (y10.symm.trans h) (by decide), (fun _ h => nomatch h), fun _ => ⟨_, hA.store hk11 HK.out, hR.store hA.low⟩⟩
    · intro dn a Y hdn hG
      have h12 := hdn 12 (by simp)
      exact ⟨hG.sz, hG.t0, hG.t4, hG.ds, hG.box, hG.fin h12⟩
  · rintro e ⟨tm, ds⟩ Y h
    cases e with
    | normal =>
      obtain ⟨hsz, t0, t4, hds, box, f', hI, hR⟩ := h
      obtain ⟨F', hF'⟩ := arr48 hsz
      subst hF'
      have t0' : F' 0 = .pointer (some ⟨gt, 0, none⟩) := t0
      have t4' : F' 4 = .pointer (some ⟨X.heap.size, 0, none⟩) := t4
      have hds' : ds = [] := hds
      subst hds'
      rw [t0', t4']
      obtain ⟨q0, q1, q2⟩ := sq_cells (s := s) box
      have HE := Lib.hid (And.intro hI hR)
      have hgt0 := hR.same HT.out.2 (hI.low_other HT.out.1).1 (HB.out.low_other HT.out.1).2
      have HG := Lib.hid hgt0
      clear t0 t4 hds t0' t4' hsz box hI hR hgt0 hS c0 c1
      simp only [Exit.then]
      go_wp2_with fail
      refine (rkids_new s _ HS.out).mono ?_
      rintro e W ⟨⟨cv, rfl, hk⟩, hb⟩
      have HR := Lib.hid hb
      obtain ⟨d0, d1⟩ := cells_two ((HR.out.block gt (Array.getElem?_eq_some_iff.1 HG.out).1).trans HG.out)
      clear hb hk q0 q1 q2
      go_wp2_with fail
      go_loopw [7] (fun k wr => k = .int .i64 0 ∧ wr = W) (fun _ _ => 0)
      case atStart => exact ⟨rfl, rfl⟩
      case round =>
        obtain ⟨rfl, rfl⟩ := hrel
        go_wp2_with fail
        go_end0
        exact ⟨rfl, f', by simpa [sqs] using HE.out.1.step HR.out, HE.out.2.trans (ByR.step HE.out.1.big HR.out)⟩
    | _ => exact h.elim
end Go.Proofs.YtabolonlkocopaaGreatDoor

/- The reference's gather, of any tree. -/
namespace Go.Proofs.YtabolonlkocopaaGreatDoor
open Go.RowKit Go.Plc

/-- the squares of a node's first kids -/
def preS (a b c d : Tr) (s : Sq) (i : Nat) : List Sq := ([sqs a (k0 s), sqs b (k1 s), sqs c (k2 s), sqs d (k3 s)].take i).flatten
theorem preS_end (a b c d : Tr) (s : Sq) : preS a b c d s 4 = sqs (.node a b c d) s := by simp [preS, sqs]
theorem kid_data {W : World} {P : Nat → Prop} {k i n : Nat} {a b c d : Tr} {va vb vc vd : Value} {s q : Sq} (hi : i < 4) (hq : (kidsS s)[i]? = some q) (hc : W.cell? ⟨k, 0, none⟩ = some va ∧ W.cell? ⟨k, 1, none⟩ = some vb ∧ W.cell? ⟨k, 2, none⟩ = some vc ∧ W.cell? ⟨k, 3, none⟩ = some vd)
    (h0 : TreeAt W P a va) (h1 : TreeAt W P b vb) (h2 : TreeAt W P c vc) (h3 : TreeAt W P d vd) (f0 : Fit a n) (f1 : Fit b n) (f2 : Fit c n) (f3 : Fit d n) :
    ∃ t u, W.cell? ⟨k, i, none⟩ = some u ∧ TreeAt W P t u ∧ Fit t n ∧ preS a b c d s (i + 1) = preS a b c d s i ++ sqs t q ∧ (preS a b c d s (i + 1)).length ≤ (sqs (.node a b c d) s).length := by
  rw [kids_eq] at hq
  have hc4 : i = 0 ∨ i = 1 ∨ i = 2 ∨ i = 3 := by omega
  rcases hc4 with rfl | rfl | rfl | rfl <;> (simp at hq; subst hq)
  · exact ⟨a, va, hc.1, h0, f0, by simp [preS], by simp [preS, sqs]⟩
  · exact ⟨b, vb, hc.2.1, h1, f1, by simp [preS], by simp [preS, sqs] <;> omega⟩
  · exact ⟨c, vc, hc.2.2.1, h2, f2, by simp [preS], by simp [preS, sqs] <;> omega⟩
  · exact ⟨d, vd, hc.2.2.2, h3, f3, by simp [preS], by simp [preS, sqs]⟩

set_option maxRecDepth 100000 in
set_option maxHeartbeats 8000000 in
theorem gather_any : ∀ (n : Nat) (t : Tr) (s : Sq) (v : Value) (M gB : Nat) (f : Nat → Value) (L : List Sq) (X : World), s.l = (n : Int) → s.okB = true → Fit t n → L.length + (sqs t s).length ≤ 2000000 → TreeAt X (fun k => k < M) t v → ByI M gB f L X →
    Calls Tryz.prog 89 #[v, .agg #[.int .i64 s.l, .int .i64 s.x, .int .i64 s.y], .slice (some ⟨gB, 0, none⟩) 11 11] X fun e Y => e = .returned (.tuple #[]) ∧ ∃ f', ByI M gB f' (L ++ sqs t s) Y ∧ ByR M gB f f' X Y := fun n => by
  induction n using Nat.strongRecOn with
  | _ n ih =>
    intro t s v M gB f L X hl hs hf hn ht hB
    match t, hf, hn, ht with
    | .leaf false, _, _, ht => exact gather_none s v M gB f L X hs ht hB
    | .leaf true, _, hn, ht => exact gather_all s v M gB n f L X hs hl (by simp [sqs] at hn; omega) ht hB
    | .node a b c d, hf, hn, ht =>
      obtain ⟨h1, hfa, hfb, hfc, hfd⟩ := hf
      have HKl := Lib.hid (show ∀ q ∈ kidsS s, q.l = ((n - 1 : Nat) : Int) ∧ q.okB = true from fun q hq => ⟨(mem_kids.1 hq).1.trans (by omega), kid_ok hs hq (by omega)⟩)
      have HS := Lib.hid hs
      have HB := Lib.hid hB
      have HI := Lib.hid ih
      have HN := Lib.hid (And.intro hn h1)
      have HF := Lib.hid (And.intro hfa (And.intro hfb (And.intro hfc hfd)))
      obtain ⟨gt, kk, cap, va, vb, vc, vd, rfl, hgM, hgt, ⟨hkM, hkX⟩, hcs, ta, tb, tc, td⟩ := ht
      have HT := Lib.hid (And.intro hgM (And.intro hgt (And.intro hkM (And.intro hcs (And.intro ta (And.intro tb (And.intro tc td)))))))
      clear hs hB ih hn h1 hfa hfb hfc hfd hgM hkM hkX hcs ta tb tc td hl
      have HX := Lib.hid (show Below X.heap.size X (X.alloc (.cells #[.int .i64 s.l, .int .i64 s.x, .int .i64 s.y] 31)) from below_new _)
      have hg2 := (HX.out.block gt (Array.getElem?_eq_some_iff.1 hgt).1).trans hgt
      obtain ⟨c0, c1⟩ := cells_two hg2
      clear hgt hg2
      go_enter Tryz.func89, Tryz.ntmps89
      go_wp2_with fail
      refine (rkids_new s _ HS.out).mono ?_
      rintro e W ⟨⟨cv, rfl, hk⟩, hb⟩
      obtain ⟨gc, cc, rfl, hc1, hc2, hsq⟩ := hk.slice
      rw [show (kidsS s).length = 4 from rfl]
      have HR := Lib.hid (HX.out.trans (hb.mono HX.out.size))
      have HC := Lib.hid (show X.heap.size ≤ gc ∧ gc < W.heap.size ∧ SqA W W.heap.size (some ⟨gc, 0, none⟩) (kidsS s) from ⟨Nat.le_trans HX.out.size hc1, hc2, hsq⟩)
      clear hb hk c0 c1 hc1 hc2 hsq
      obtain ⟨d0, d1⟩ := cells_two ((HR.out.block gt (Array.getElem?_eq_some_iff.1 HT.out.2.1).1).trans HT.out.2.1)
      have HBW := Lib.hid (HB.out.step HR.out)
      have HRW := Lib.hid (ByR.step (gB := gB) (f := f) HB.out.big HR.out)
      go_wp2_with fail
      go_loopw [7] (fun k wr => ∃ (i : Nat) (f' : Nat → Value), k = .int .i64 (i : Int) ∧ i ≤ 4 ∧ ByI M gB f' (L ++ preS a b c d s i) wr ∧ ByR M gB f f' W wr) (fun k _ => 4 - (intOf k).toNat)
      case atStart => exact ⟨0, f, rfl, by omega, by simpa [preS] using HBW.out, ByR.refl _ _ _ _⟩
      case round =>
        obtain ⟨i, f', rfl, hi4, hI, hR⟩ := hrel
        have HE := Lib.hid (And.intro hI (And.intro hR (HRW.out.trans hR)))
        have hsame : ∀ g, g < M → wr.heap[g]? = X.heap[g]? := fun g hg => HE.out.2.2.keep g (Nat.lt_of_lt_of_le hg HB.out.big) (HB.out.low_other hg).1 (HB.out.low_other hg).2
        obtain ⟨d0, d1⟩ := cells_two ((hsame gt HT.out.1).trans HT.out.2.1)
        by_cases hlt : i < 4
        · have hsC : wr.heap[gc]? = W.heap[gc]? := hR.keep gc HC.out.2.1 (HB.out.other HC.out.1).1 (HB.out.other HC.out.1).2
          have hq := List.getElem?_eq_getElem (l := kidsS s) (i := i) (by rw [kids_eq]; simpa using hlt)
          obtain ⟨q, hqe⟩ : ∃ q, (kidsS s)[i]? = some q := ⟨_, hq⟩
          clear hq
          have HQ := Lib.hid (HKl.out q (List.mem_of_getElem? hqe))
          obtain ⟨a1, e1, _, g1, g2, g3⟩ := HC.out.2.2 i q hqe
          injection e1 with e1
          subst e1
          have hca : ∀ j u, W.cell? ⟨gc, j, none⟩ = some u → wr.cell? ⟨gc, j, none⟩ = some u := fun j u h => (World.cell?_of_block (a := ⟨gc, j, none⟩) hsC).trans h
          have ea : (⟨gc, 0, none⟩ : Addr).add (i * 3) = ⟨gc, i * 3, none⟩ := by
            unfold Addr.add
            split
            · rename_i h; rw [h]
            · simp
          rw [ea] at g1 g2 g3
          have q0 := hca _ _ g1
          have q1 := hca _ _ g2
          have q2 := hca _ _ g3
          clear g1 g2 g3 ea
          have hck : ∀ j u, X.cell? ⟨kk, j, none⟩ = some u → wr.cell? ⟨kk, j, none⟩ = some u := fun j u h => (World.cell?_of_block (a := ⟨kk, j, none⟩) (hsame kk HT.out.2.2.1)).trans h
          obtain ⟨ti, u, hu, hti, hfi, hpre, hlen⟩ := kid_data hlt hqe ⟨hck _ _ HT.out.2.2.2.1.1, hck _ _ HT.out.2.2.2.1.2.1, hck _ _ HT.out.2.2.2.1.2.2.1, hck _ _ HT.out.2.2.2.1.2.2.2⟩
            (HB.out.tree HE.out.2.2 HT.out.2.2.2.2.1) (HB.out.tree HE.out.2.2 HT.out.2.2.2.2.2.1) (HB.out.tree HE.out.2.2 HT.out.2.2.2.2.2.2.1) (HB.out.tree HE.out.2.2 HT.out.2.2.2.2.2.2.2) HF.out.1 HF.out.2.1 HF.out.2.2.1 HF.out.2.2.2
          have HCall := Lib.hid (HI.out (n - 1) (by have := HN.out.2; omega) ti q u M gB f' (L ++ preS a b c d s i) wr.drew HQ.out.1 HQ.out.2 hfi (by
            have := HN.out.1
            rw [hpre, List.length_append] at hlen
            rw [List.length_append]; omega) (hti.step (Below.refl _ _).drew) (HE.out.1.step (Below.refl _ _).drew))
          have HP := Lib.hid hpre
          clear hti hfi hpre hlen hsame hck hsC hqe hca
          go_wp2_with fail
          refine wp_region_tail 12 (by kernel_rfl) (by kernel_rfl) ?_
          simp only [List.take_succ_cons, List.take_zero, List.drop_succ_cons, List.drop_zero]
          repeat still_step
          refine wpStill_nil ?_
          go_wp2_with fail
          refine HCall.out.mono ?_
          rintro e Y ⟨rfl, f2, hI2, hR2⟩
          have HF2 := Lib.hid (show ByI M gB f2 (L ++ preS a b c d s (i + 1)) Y ∧ ByR M gB f f2 W Y from
            ⟨by rw [HP.out, ← List.append_assoc]; exact hI2, HE.out.2.1.trans ((ByR.step (gB := gB) (f := f') HE.out.1.big (Below.refl _ _).drew).trans hR2)⟩)
          clear hI2 hR2 q0 q1 q2 hu d0 d1
          go_wp2_with fail
          go_roundw
          case rel => exact ⟨i + 1, f2, by go_num, by omega, HF2.out.1, HF2.out.2⟩
          case measure => simp [intOf]; omega
        · obtain rfl : i = 4 := by omega
          clear hsame
          go_wp2_with fail
          go_end0
          exact ⟨rfl, f', by rw [← preS_end]; exact HE.out.1, HE.out.2.2⟩
end Go.Proofs.YtabolonlkocopaaGreatDoor

/- The reference's list of a tree. -/
namespace Go.Proofs.YtabolonlkocopaaGreatDoor
open Go.RowKit Go.Plc

theorem row_slice {W : World} {M : Nat} {v : Value} {L : List Sq} (h : W.ownsRow M 31 3 v L.length (cellsOf L)) : ∃ A c, v = .slice A L.length c ∧ L.length ≤ c ∧ c ≤ 9223372036854775807 ∧ SqSl W W.heap.size (.slice A L.length c) L := by
  obtain ⟨A, c, rfl, hS⟩ := SqA.of_own h
  refine ⟨A, c, rfl, ?_, ?_, A, c, rfl, hS⟩
  · rcases h.2 with ⟨e, h0⟩ | ⟨g, cap, cur, e, hb, hg, h1, h2, _⟩
    · omega
    · injection e with e1 e2 e3; omega
  · rcases h.2 with ⟨e, h0⟩ | ⟨g, cap, cur, e, hb, hg, h1, h2, _⟩
    · injection e with e1 e2 e3; omega
    · injection e with e1 e2 e3; unfold maxLen at h2; omega
theorem sort_len (L : List Sq) : (sortS L).length = L.length := (sortS_perm L).length_eq
theorem upto_len (S : List Sq) : ∀ i, (uptoS S i).length ≤ i * S.length
  | 0 => by simp [uptoS]
  | i + 1 => by
    have := upto_len S i
    have := lvS_len S i
    rw [uptoS_next, List.length_append, sort_len, Nat.add_mul]; omega

set_option maxRecDepth 100000 in
set_option maxHeartbeats 8000000 in
theorem list_any (t : Tr) (v : Value) (w : World) (P : Nat → Prop) (hf : Fit t 10) (hn : (sqs t wholeS).length ≤ 100000) (ht : TreeAt w P t v) :
    Calls Tryz.prog 42 #[v] w fun e w' => (∃ u, e = .returned u ∧ SqSl w' w'.heap.size u (listT t)) ∧ Below w.heap.size w w' := by
  have HT := Lib.hid (show TreeAt w (fun k => k < w.heap.size) t v from ht.imp fun k hk _ => hk)
  have HF := Lib.hid (And.intro hf hn)
  obtain ⟨gt, rfl, _, _⟩ := ht.flag
  clear ht hf hn
  have HL := Lib.hid (show listT t = uptoS (sqs t wholeS) 11 from rfl)
  rw [HL.out]
  have hmk : ∀ w, (Instr.makeSlice 95 (.int .i64 11) (.int .i64 11)).run Tryz.prog w = .ok (.slice (some ⟨w.heap.size, 0, none⟩) 11 11) (w.alloc (.cells #[.slice none 0 0, .slice none 0 0, .slice none 0 0, .slice none 0 0, .slice none 0 0, .slice none 0 0, .slice none 0 0, .slice none 0 0, .slice none 0 0, .slice none 0 0, .slice none 0 0] 22)) := fun _ => by kernel_rfl
  go_enter Tryz.func42, Tryz.ntmps42
  go_wp2_with fail
  refine (whole_any _).mono ?_
  rintro e W0 ⟨rfl, hb0⟩
  have H0 := Lib.hid (show ByI w.heap.size w.heap.size (fun _ => .slice none 0 0) [] W0 ∧ TreeAt W0 (fun k => k < w.heap.size) t (.pointer (some ⟨gt, 0, none⟩)) ∧ Below w.heap.size w W0 from
    ⟨(ByI.start w.heap.size w.heap.size _ (Nat.le_refl _) (World.alloc_heap_new w _)).step hb0, (HT.out.step (below_new _)).step hb0, (below_new _).trans (hb0.mono (by simp))⟩)
  clear hb0
  unfold sqv wholeS
  go_wp2_with fail
  refine (gather_any 10 t wholeS (.pointer (some ⟨gt, 0, none⟩)) w.heap.size w.heap.size _ [] W0 rfl whole_ok HF.out.1 (by have := HF.out.2; simp; omega) H0.out.2.1 H0.out.1).mono ?_
  rintro e W1 ⟨rfl, f, hI, hR⟩
  have H1 := Lib.hid (show ByI w.heap.size w.heap.size f (sqs t wholeS) W1 ∧ Below w.heap.size w W1 from ⟨by simpa using hI, H0.out.2.2.trans hR.bel⟩)
  clear hI hR
  go_wp2_with fail
  generalize hS : sqs t wholeS = S at *
  have HS := Lib.hid hS
  clear hS
  go_loopw [4, 5] (fun v k wr => ∃ i : Nat, k = .int .i64 (i : Int) ∧ i ≤ 11 ∧ OwJ W1 31 3 v (uptoS S i).length (cellsOf (uptoS S i)) wr) (fun _ k _ => 11 - (intOf k).toNat)
  case atStart => exact ⟨0, rfl, by omega, OwJ.start _ _ _⟩
  case round =>
    obtain ⟨i, rfl, hi, hO⟩ := hrel
    have HO := Lib.hid hO
    clear hO
    by_cases hlt : i < 11
    · have hI := H1.out.1.step HO.out.bel
      have hc := hI.slice hlt
      obtain ⟨A, c, ef, hlc, hcm, hsl⟩ := row_slice (hI.row i hlt)
      rw [ef] at hc
      have HLen := Lib.hid (show (lvS S i).length ≤ 100000 ∧ (uptoS S i).length ≤ 1100000 from by
        have h1 := HF.out.2
        have h2 := lvS_len S i
        have h3 := upto_len S i
        exact ⟨by omega, Nat.le_trans h3 (Nat.le_trans (Nat.mul_le_mul (Nat.le_of_lt hlt) h1) (by omega))⟩)
      have HSo := Lib.hid (rSorted_any (lvS S i).length (lvS S i) A c wr (Nat.le_refl _) hlc HLen.out.1 hcm hsl)
      have HUp := Lib.hid (uptoS_next S i)
      clear hI hlc hcm hsl
      go_wp2_with fail
      refine HSo.out.mono ?_
      rintro e W2 ⟨⟨u, rfl, hu⟩, hb⟩
      have HO2 := Lib.hid (HO.out.step hb)
      have HB2 := Lib.hid (show W1.heap.size ≤ W2.heap.size from HO2.out.bound)
      have HSl := Lib.hid (sort_len (lvS S i))
      obtain ⟨Au, cu, eu, hS⟩ := hu
      subst eu
      clear hb hc
      generalize sortS (lvS S i) = R at *
      have hR1 : R.length ≤ 100000 := by have := HLen.out.1; have := HSl.out; omega
      have hU1 := HLen.out.2
      generalize hU : uptoS S i = U at *
      have HU := Lib.hid hU
      clear hU
      obtain ⟨i0, hi0, hz0, hz1, hz2⟩ := info_parts infoSq
      have HZ := Lib.hid (show i0.size = 3 ∧ i0.bytes = 24 ∧ Tryz.prog.info? 31 = some i0 ∧ i0.zero = some (.agg #[.int .i64 0, .int .i64 0, .int .i64 0]) from ⟨hz1, hz2, hi0, hz0⟩)
      clear hz0 hz1 hz2 hi0
      cases Au with
      | none =>
        have hR0 := nil_of_none hS
        subst hR0
        go_wp2_with (at_builtin; refine wpList_append_nil rfl _ _ 22 rfl W1.heap.size 31 i0 3 cu Tryz.underlying22 HZ.out.2.2.1 u4 U.length (cellsOf U) rfl HO2.out.own rfl ?_)
        have HO4 := Lib.hid (show OwJ W1 31 3 u4 (uptoS S (i + 1)).length (cellsOf (uptoS S (i + 1))) W2 from by rw [HUp.out, List.append_nil]; exact HO2.out)
        go_roundw
        case rel => exact ⟨i + 1, by go_num, by omega, HO4.out⟩
        case measure => simp [intOf]; omega
      | some ad =>
        have HC := Lib.hid hS.cells_at
        have HL3 := Lib.hid (cellsOf_len R)
        have H1c := Lib.hid (cellsOf_one R)
        clear hS
        go_wp2_with (at_builtin; refine wpList_append_own _ rfl _ _ 22 rfl W1.heap.size 31 i0 (.agg #[.int .i64 0, .int .i64 0, .int .i64 0]) 3 24 Tryz.underlying22 HZ.out.2.2.1 HZ.out.2.2.2 HZ.out.1 HZ.out.2.1 rfl (by decide) u4 U.length (cellsOf U) rfl HO2.out.own ad R.length cu (cellsOf R) rfl HL3.out HC.out H1c.out (by unfold maxLen; omega) (by omega) HB2.out ?_; intro v4 w4 hown4 hg4 hnn4)
        have HO4 := Lib.hid (show OwJ W1 31 3 v4 (uptoS S (i + 1)).length (cellsOf (uptoS S (i + 1))) w4 from by
          have h := HO2.out.grown (Below.refl _ _) hg4 hown4
          rw [HUp.out, List.length_append]
          unfold cellsOf at h ⊢
          rw [List.flatMap_append]; exact h)
        clear hown4 hg4 hnn4
        go_roundw
        case rel => exact ⟨i + 1, by go_num, by omega, HO4.out⟩
        case measure => simp [intOf]; omega
    · obtain rfl : i = 11 := by omega
      have HV := Lib.hid (SqA.of_own HO.out.own)
      have HB := Lib.hid (H1.out.2.trans (HO.out.bel.mono H1.out.2.size))
      obtain ⟨A, c, rfl, hS⟩ := HV.out
      have HV2 := Lib.hid (show SqSl wr wr.heap.size (.slice A (uptoS S 11).length c) (uptoS S 11) from ⟨A, c, rfl, hS⟩)
      clear hS
      go_wp2_with fail
      go_ret
      exact ⟨⟨_, rfl, by rw [HS.out]; exact HV2.out⟩, HB.out⟩
end Go.Proofs.YtabolonlkocopaaGreatDoor

/- The reference's Normal and ValidRegion. -/
namespace Go.Proofs.YtabolonlkocopaaGreatDoor
open Go.RowKit Go.Plc

theorem gl_len {L : List Sq} (hL : ∀ s ∈ L, s.okB = true) (hn : L.length ≤ 4096) : Fit (growS L) 10 ∧ (sqs (growS L) wholeS).length ≤ 100000 ∧ listT (growS L) = nrm L := by
  obtain ⟨h1, h2⟩ := grow_tdy 10 wholeS L
  have h3 := (sqs_canon (growS L) wholeS whole_ok h2 h1).1
  have h4 : (listT (growS L)).length = (sqs (growS L) wholeS).length := region_len h3.ok
  have h5 := grow_list hL
  have h6 := (nrm_reg hL hn).2.1
  refine ⟨h2, ?_, h5⟩
  have h7 : (nrm L).length = (listT (growS L)).length := by rw [h5]; rfl
  omega
theorem all_ok {L : List Sq} : L.all Sq.okB = true ↔ ∀ s ∈ L, s.okB = true := List.all_eq_true
set_option maxRecDepth 100000 in
set_option maxHeartbeats 8000000 in
theorem rValidRegion_any (v : Value) (L : List Sq) (w : World) (hv : SqSl w w.heap.size v L) (hn : L.length ≤ 100000) :
    Calls Tryz.prog 13 #[v] w fun e w' => e = .returned (.bool (regB L)) ∧ Below w.heap.size w w' := by
  have HV := Lib.hid hv
  have HN := Lib.hid hn
  have HR := Lib.hid (show (4096 < L.length → regB L = false) ∧ (L.all Sq.okB = false → regB L = false) ∧ (L.length ≤ 4096 → L.all Sq.okB = true → regB L = decide (nrm L = L)) from
    ⟨fun h => (Bool.eq_false_iff).2 fun e => (by have := (regB_iff.1 e).1; omega), fun h => (Bool.eq_false_iff).2 fun e => (by rw [all_ok.2 (regB_iff.1 e).2.1.ok] at h; cases h), fun h1 h2 => regB_eq (all_ok.1 h2) h1⟩)
  obtain ⟨A, c, rfl⟩ := sl_formJ hv
  have HVa := Lib.hid (rvalid_any _ L w hv (by omega))
  clear hv hn
  generalize hr : regB L = r at *
  by_cases hlen : L.length ≤ 4096
  · cases hok : L.all Sq.okB
    · rw [hok] at HVa
      have HF := Lib.hid (HR.out.2.1 hok)
      clear hok
      go_enter Tryz.func13, Tryz.ntmps13
      go_wp2_with fail
      refine HVa.out.mono ?_
      rintro e w1 ⟨rfl, hb⟩
      go_wp2_with fail
      go_ret
      exact ⟨ret_b HF.out.symm, hb⟩
    · rw [hok] at HVa
      have HF := Lib.hid (HR.out.2.2 hlen hok)
      have HG := Lib.hid (gl_len (all_ok.1 hok) hlen)
      have HO := Lib.hid (all_ok.1 hok)
      clear hok
      go_enter Tryz.func13, Tryz.ntmps13
      go_wp2_with fail
      refine HVa.out.mono ?_
      rintro e w1 ⟨rfl, hb⟩
      have HB1 := Lib.hid hb
      clear hb
      go_wp2_with fail
      refine (grow_any _ L w1 HO.out HN.out ((HV.out.below HB1.out).mono HB1.out.size)).mono ?_
      rintro e w2 ⟨⟨u, rfl, hu⟩, hb⟩
      have HB2 := Lib.hid (HB1.out.trans (hb.mono HB1.out.size))
      have HU := Lib.hid hu
      obtain ⟨gu, rfl, _, _⟩ := hu.flag
      clear hb hu
      go_wp2_with fail
      refine (list_any (growS L) _ w2 _ HG.out.1 HG.out.2.1 HU.out).mono ?_
      rintro e w3 ⟨⟨u, rfl, hu⟩, hb⟩
      rw [HG.out.2.2] at hu
      have HB3 := Lib.hid (HB2.out.trans (hb.mono HB2.out.size))
      have HU3 := Lib.hid hu
      obtain ⟨A3, c3, rfl⟩ := sl_formJ hu
      clear hb hu
      go_wp2_with fail
      refine (SameSquares_any _ _ (nrm L) L w3 HU3.out ((HV.out.below HB3.out).mono HB3.out.size) (by have := (nrm_reg HO.out hlen).2.1; omega)).mono ?_
      rintro e w4 ⟨rfl, hb⟩
      have HB4 := Lib.hid (HB3.out.trans (hb.mono HB3.out.size))
      clear hb
      generalize decide (nrm L = L) = b at *
      cases b
      · go_wp2_with fail
        go_ret
        exact ⟨ret_b HF.out.symm, HB4.out⟩
      · go_wp2_with fail
        go_ret
        exact ⟨ret_b HF.out.symm, HB4.out⟩
  · have HF := Lib.hid (HR.out.1 (by omega))
    have hlt : ¬ ((L.length : Int) ≤ 4096) := by omega
    go_enter Tryz.func13, Tryz.ntmps13
    go_wp2_with fail
    go_ret
    exact ⟨ret_b HF.out.symm, Below.refl _ _⟩
end Go.Proofs.YtabolonlkocopaaGreatDoor

/- The reference's few. -/
namespace Go.Proofs.YtabolonlkocopaaGreatDoor
open Go.RowKit Go.Plc

def fewB (L : List Sq) : Bool := decide (L.length ≤ 60) || (decide (4096 < L.length) && decide (L.length ≤ 8192))
set_option maxHeartbeats 2000000 in
theorem few_any (A : Option Addr) (L : List Sq) (c : Nat) (w : World) :
    Calls Tryz.prog 7 #[.slice A L.length c] w fun e w' => e = .returned (.bool (fewB L)) ∧ Below w.heap.size w w' := by
  unfold fewB
  generalize L.length = n
  by_cases h1 : (n : Int) ≤ 60
  · go_enter Tryz.func7, Tryz.ntmps7
    go_wp2_with fail
    go_ret
    exact ⟨ret_b (by have : n ≤ 60 := by omega
                     simp [this]), Below.refl _ _⟩
  · by_cases h2 : (4096 : Int) < (n : Int)
    · go_enter Tryz.func7, Tryz.ntmps7
      go_wp2_with fail
      go_ret
      refine ⟨ret_b ?_, Below.refl _ _⟩
      have e1 : decide (n ≤ 60) = false := by simp; omega
      have e2 : decide (4096 < n) = true := by simp; omega
      rw [e1, e2]
      by_cases h3 : (n : Int) ≤ 8192
      · have : n ≤ 8192 := by omega
        simp [this, h3]
      · have : ¬ n ≤ 8192 := by omega
        simp [this, h3]
    · go_enter Tryz.func7, Tryz.ntmps7
      go_wp2_with fail
      go_ret
      exact ⟨ret_b (by have e1 : decide (n ≤ 60) = false := by simp; omega
                       have e2 : decide (4096 < n) = false := by simp; omega
                       rw [e1, e2]; rfl), Below.refl _ _⟩

end Go.Proofs.YtabolonlkocopaaGreatDoor
