/- PlacesNormal: the walk. -/
import Derived.Test.YtabolonlkocopaaDoorOwI
import Derived.Test.YtabolonlkocopaaDoorAlgW
namespace Go.Proofs.YtabolonlkocopaaDoor
open Go.RowKit Go.Plc

theorem norm_bad {L : List Sq} (h : ¬ ∀ s ∈ L, s.okB = true) (lL : L.length ≤ 4096) : normalOut L = ([], 10) := by
  unfold normalOut
  rw [if_pos lL, if_neg (fun g => h (List.all_eq_true.1 g))]
/-- what the calls return when the first list has valid squares -/
structure NrA (l m a : List Sq) : Prop where
  len : l.length ≤ 60 ∧ m.length ≤ 60 ∧ a.length ≤ l.length
  c1 : normalOut l = (a, 0)
  c2 : normalOut l.reverse = (a, 0)
  c3 : normalOut a = (a, 0)
  c4 : regB a = true
  c5 : ∃ b, regB l = b ∧ decide (a = l) = b
  has : ∀ s ∈ l, askOut a s (hasS a s) = (true, 0)
  c6 : (∃ d x y, normalOut m = (d, 0) ∧ d.length ≤ 60 ∧ minusOut a d = (x, 0) ∧ minusOut d a = (y, 0) ∧ (((x.length = 0 ∧ y.length = 0) ∧ decide (a = d) = true) ∨ (¬ (x.length = 0 ∧ y.length = 0) ∧ decide (a = d) = false))) ∨ normalOut m = ([], 10)
theorem nra {l m : List Sq} (hl : ∀ s ∈ l, s.okB = true) (ll : l.length ≤ 60) (lm : m.length ≤ 60) : ∃ a, NrA l m a := by
  refine ⟨nrm l, ⟨ll, lm, (nrm_reg hl (by omega)).2.1⟩, normalOut_ok hl (by omega), ?_, ?_, (nrm_reg hl (by omega)).1, ⟨_, rfl, (regB_eq hl (by omega)).symm⟩, ?_, ?_⟩
  · rw [normalOut_ok (fun s hs => hl s (List.mem_reverse.1 hs)) (by simp; omega), nrm_rev hl (by omega)]
  · obtain ⟨a1, a2, _⟩ := nrm_reg hl (by omega)
    rw [normalOut_ok (regB_iff.1 a1).2.1.ok (by omega), nrm_of_reg a1]
  · intro s hs
    rw [has_of_mem hl (by omega) hs, ask_of (nrm_reg hl (by omega)).1 (hl s hs)]
  · by_cases hm : ∀ s ∈ m, s.okB = true
    · obtain ⟨x, y, h⟩ := norm_data hl hm ll lm
      refine .inl ⟨nrm m, x, y, normalOut_ok hm (by omega), by have := (nrm_reg hm (by omega)).2.1; omega, h.c7, h.c8, ?_⟩
      by_cases e : nrm l = nrm m
      · exact .inl ⟨h.c9.2 e, by simp [e]⟩
      · exact .inr ⟨fun g => e (h.c9.1 g), by simp [e]⟩
    · exact .inr (norm_bad hm (by omega))

theorem rev_next {L : List Sq} {k : Nat} {s : Sq} (h : L[k]? = some s) : (L.drop (k + 1)).reverse ++ [s] = (L.drop k).reverse := by
  obtain ⟨hk, e⟩ := List.getElem?_eq_some_iff.1 h
  rw [List.drop_eq_getElem_cons hk, List.reverse_cons, e]
theorem cellsOf_snoc (P : List Sq) (s : Sq) : cellsOf (P ++ [s]) = cellsOf P ++ [.int .i64 s.l, .int .i64 s.x, .int .i64 s.y] := cells_snoc P s

set_option maxRecDepth 100000 in
set_option maxHeartbeats 16000000 in
theorem PlacesNormal_any (va vb : Value) (l m : List Sq) (w : World) (hM : MonthDays w) (hT : TabW w) (ha : SqSl w w.heap.size va l) (hb : SqSl w w.heap.size vb m) :
    Calls Tryd.prog 6 #[va, vb] w fun e w' => e = .returned (.bool true) ∧ Below w.heap.size w w' := by
  have HM := Lib.hid hM
  have HT := Lib.hid hT
  obtain ⟨A, ca, rfl⟩ := sl_form ha
  obtain ⟨B, cb, rfl⟩ := sl_form hb
  have HS := Lib.hid (And.intro ha hb)
  have HD := Lib.hid (fun (hl : ∀ s ∈ l, s.okB = true) ll lm => nra (l := l) (m := m) hl ll lm)
  clear hM hT ha hb
  generalize hn : l.length = n at *
  generalize hm : m.length = k at *
  have HL := Lib.hid (And.intro hn hm)
  clear hn hm
  by_cases h1 : 60 < n
  · go_enter Tryd.func6, Tryd.ntmps6
    go_wp2_with fail
    refine (awake_any _ HM.out HT.out).mono ?_
    rintro e w1 ⟨rfl, hb1⟩
    have H1 := Lib.hid hb1
    clear hb1
    go_wp2_with fail
    go_ret
    exact ⟨rfl, H1.out⟩
  · by_cases h2 : 60 < k
    · go_enter Tryd.func6, Tryd.ntmps6
      go_wp2_with fail
      refine (awake_any _ HM.out HT.out).mono ?_
      rintro e w1 ⟨rfl, hb1⟩
      have H1 := Lib.hid hb1
      clear hb1
      go_wp2_with fail
      go_ret
      exact ⟨rfl, H1.out⟩
    · go_enter Tryd.func6, Tryd.ntmps6
      go_wp2_with fail
      refine (awake_any _ HM.out HT.out).mono ?_
      rintro e w1 ⟨rfl, hb1⟩
      have H1 := Lib.hid hb1
      clear hb1
      go_wp2_with fail
      by_cases hok : ∀ s ∈ l, s.okB = true
      · obtain ⟨a, hA⟩ := HD.out hok (by omega) (by omega)
        have HA := Lib.hid hA
        clear hA hok HD
        refine (NormalOut_is _ l a 0 _ (HS.out.1.step H1.out) (by have := HL.out; omega) HA.out.c1).mono ?_
        rintro e w2 ⟨⟨x, rfl, hs⟩, hb2⟩
        obtain ⟨Ax, cx, rfl⟩ := sl_form hs
        have K0 := Lib.hid (show KB w [] [(.slice Ax a.length cx, a), (.slice B k cb, m), (.slice A n ca, l)] w2 from
          KB.slice (KB.slice (KB.slice ⟨H1.out.trans (hb2.mono H1.out.size), fun _ hp => absurd hp List.not_mem_nil, fun _ hq => absurd hq List.not_mem_nil⟩ ((HS.out.1.step H1.out).step hb2)) ((HS.out.2.step H1.out).step hb2)) hs)
        clear hs hb2 H1 HS
        generalize hna : a.length = na at *
        have HNa := Lib.hid hna
        clear hna
        go_wp2_with fail
        obtain ⟨i0, hi0, hz0, hz1, hz2⟩ := info_parts infoSq
        have HZ := Lib.hid (show i0.size = 3 ∧ i0.bytes = 24 ∧ Tryd.prog.info? 23 = some i0 ∧ i0.zero = some (.agg #[.int .i64 0, .int .i64 0, .int .i64 0]) from ⟨hz1, hz2, hi0, hz0⟩)
        clear hz0 hz1 hz2 hi0
        go_wp2_with fail
        go_loopw [8, 9] (fun v i wr => ∃ j : Nat, i = .int .i64 ((j : Int) - 1) ∧ j ≤ n ∧ OwI w2 23 3 v (n - j) (cellsOf (l.drop j).reverse) wr) (fun _ i _ => (intOf i + 1).toNat)
        case atStart => exact ⟨n, rfl, Nat.le_refl _, by rw [List.drop_eq_nil_of_le (by have := HL.out.1; omega), Nat.sub_self]; exact OwI.start _ _ _⟩
        case round =>
          obtain ⟨j, rfl, hj, hI⟩ := hrel
          have HI := Lib.hid hI
          clear hI
          by_cases hlt : 0 < j
          · obtain ⟨q, rfl⟩ : ∃ q, j = q + 1 := ⟨j - 1, by omega⟩
            have hqi : ((q + 1 : Nat) : Int) - 1 = (q : Int) := by omega
            rw [hqi]
            clear hqi
            obtain ⟨s, ad, hs, hms, rfl, hbd, c1, c2, c3⟩ := sl_at ((K0.out.step HI.out.bel).sl (.slice A n ca, l) (List.mem_cons_of_mem _ (List.mem_cons_of_mem _ List.mem_cons_self))) (show q < n by omega)
            have HO := Lib.hid ((HI.out.own).alloc (.cells #[.int .i64 s.l, .int .i64 s.x, .int .i64 s.y] 23))
            have HNw := Lib.hid (news1 wr s)
            have HBs := Lib.hid (show w2.heap.size ≤ (wr.alloc (.cells #[.int .i64 s.l, .int .i64 s.x, .int .i64 s.y] 23)).heap.size from by have := HI.out.bound; simp; omega)
            have HFin := Lib.hid (fun v4 (w4 : World) (h : w4.ownsRow w2.heap.size 23 3 v4 (n - (q + 1) + 1) (cellsOf (l.drop (q + 1)).reverse ++ [.int .i64 s.l, .int .i64 s.x, .int .i64 s.y])) => show w4.ownsRow w2.heap.size 23 3 v4 (n - q) (cellsOf (l.drop q).reverse) from by
              rw [← cellsOf_snoc, rev_next hs, show n - (q + 1) + 1 = n - q by omega] at h; exact h)
            clear hs hms
            go_wp2_with (at_builtin; refine wpList_append_own _ rfl _ _ 27 rfl w2.heap.size 23 i0 (.agg #[.int .i64 0, .int .i64 0, .int .i64 0]) 3 24 Tryd.underlying27 HZ.out.2.2.1 HZ.out.2.2.2 HZ.out.1 HZ.out.2.1 rfl (by decide) u8 (n - (q + 1)) (cellsOf (l.drop (q + 1)).reverse) rfl HO.out ⟨wr.heap.size, 0, none⟩ 1 1 [.int .i64 s.l, .int .i64 s.x, .int .i64 s.y] rfl rfl HNw.out.1 HNw.out.2 (by unfold maxLen; omega) (by omega) HBs.out ?_; intro v4 w4 hown4 hg4 hnn4)
            go_roundw
            case rel => exact ⟨q, by go_num, by omega, HI.out.grown (below_new _) hg4 (HFin.out _ _ hown4)⟩
            case measure => simp [intOf]
          · obtain rfl : j = 0 := by omega
            have hbk : SqSl wr wr.heap.size u8 l.reverse := by
              have h := HI.out.own
              rw [List.drop_zero, show n - 0 = l.reverse.length by rw [List.length_reverse, HL.out.1]; omega] at h
              exact SqA.of_own h
            have hbl : l.reverse.length = n := by rw [List.length_reverse, HL.out.1]
            obtain ⟨Ab, cb', rfl⟩ := sl_form hbk
            rw [hbl] at hbk ⊢
            have K1 := Lib.hid ((K0.out.step HI.out.bel).slice hbk)
            have HRl := Lib.hid hbl
            clear hbk hbl HI K0
            have HMm := Lib.hid (show ((.slice B k cb : Value), m) ∈ [((.slice Ab n cb' : Value), l.reverse), (.slice Ax na cx, a), (.slice B k cb, m), (.slice A n ca, l)] from List.mem_cons_of_mem _ (List.mem_cons_of_mem _ List.mem_cons_self))
            have HMa := Lib.hid (show ((.slice Ax na cx : Value), a) ∈ [((.slice Ab n cb' : Value), l.reverse), (.slice Ax na cx, a), (.slice B k cb, m), (.slice A n ca, l)] from List.mem_cons_of_mem _ List.mem_cons_self)
            have HMl := Lib.hid (show ((.slice A n ca : Value), l) ∈ [((.slice Ab n cb' : Value), l.reverse), (.slice Ax na cx, a), (.slice B k cb, m), (.slice A n ca, l)] from List.mem_cons_of_mem _ (List.mem_cons_of_mem _ (List.mem_cons_of_mem _ List.mem_cons_self)))
            have Hla := Lib.hid (show a.length ≤ 4096 ∧ l.length ≤ 4096 ∧ l.reverse.length ≤ 4096 from by have h1 := HA.out.len; have h2 := HNa.out; have h3 := HRl.out; have h4 := HL.out; omega)
            have hna : ¬ ((n : Int) < (na : Int)) := by have h1 := HA.out.len; have h2 := HNa.out; have h4 := HL.out; omega
            go_wp2_with fail
            refine (NormalOut_is _ l.reverse a 0 _ (K1.out.sl _ List.mem_cons_self) Hla.out.2.2 HA.out.c2).mono ?_
            rintro e w3 ⟨⟨x3, rfl, hs⟩, hb⟩
            obtain ⟨A3, c3, rfl⟩ := sl_form hs
            rw [HNa.out] at hs ⊢
            have K2 := Lib.hid (K1.out.step hb)
            have S2 := Lib.hid hs
            clear hs hb K1
            go_wp2_with fail
            refine (NormalOut_is _ a a 0 _ (K2.out.sl _ HMa.out) Hla.out.1 HA.out.c3).mono ?_
            rintro e w4 ⟨⟨x4, rfl, hs⟩, hb⟩
            obtain ⟨A4, c4, rfl⟩ := sl_form hs
            rw [HNa.out] at hs ⊢
            have K3 := Lib.hid (K2.out.step hb)
            have S3 := Lib.hid (And.intro (S2.out.step hb) hs)
            clear hs hb K2 S2
            go_wp2_with fail
            refine (ValidRegion_is _ a true _ (K3.out.sl _ HMa.out) Hla.out.1 HA.out.c4).mono ?_
            rintro e w5 ⟨rfl, hb⟩
            have K4 := Lib.hid (K3.out.step hb)
            have S4 := Lib.hid (And.intro (S3.out.1.step hb) (S3.out.2.step hb))
            clear hb K3 S3
            go_wp2_with fail
            refine (SameSq_is _ _ a a true _ (K4.out.sl _ HMa.out) S4.out.1 Hla.out.1 (by simp)).mono ?_
            rintro e w6 ⟨rfl, hb⟩
            have K5 := Lib.hid (K4.out.step hb)
            have S5 := Lib.hid (S4.out.2.step hb)
            clear hb K4 S4
            go_wp2_with fail
            refine (SameSq_is _ _ a a true _ (K5.out.sl _ HMa.out) S5.out Hla.out.1 (by simp)).mono ?_
            rintro e w7 ⟨rfl, hb⟩
            have K6 := Lib.hid (K5.out.step hb)
            clear hb K5 S5
            go_wp2_with fail
            obtain ⟨bl, hbl, hbl2⟩ := HA.out.c5
            have HBl := Lib.hid (And.intro hbl hbl2)
            clear hbl hbl2
            refine (ValidRegion_is _ l bl _ (K6.out.sl _ HMl.out) Hla.out.2.1 HBl.out.1).mono ?_
            rintro e w8 ⟨rfl, hb⟩
            have K7 := Lib.hid (K6.out.step hb)
            clear hb K6
            go_wp2_with fail
            refine (SameSq_is _ _ a l bl _ (K7.out.sl _ HMa.out) (K7.out.sl _ HMl.out) Hla.out.1 HBl.out.2).mono ?_
            rintro e w9 ⟨rfl, hb⟩
            have K8 := Lib.hid (K7.out.step hb)
            clear hb K7
            have hbb : (bl != bl) = false := by cases bl <;> rfl
            go_wp2_with fail
            have hnb : decide (n < na) = false := by simp; omega
            simp only [hnb]
            clear hbb hna hnb
            go_loopw [14] (fun k wx => ∃ i : Nat, k = .int .i64 (i : Int) ∧ i ≤ n ∧ Below w9.heap.size w9 wx) (fun k _ => n - (intOf k).toNat)
            case atStart => exact ⟨0, rfl, Nat.zero_le _, Below.refl _ _⟩
            case round =>
              obtain ⟨i, rfl, hin, hbel⟩ := hrel
              have KI := Lib.hid (K8.out.step hbel)
              have HBi := Lib.hid hbel
              clear hbel
              by_cases hlt2 : i < n
              · obtain ⟨s, ad, hs, hms, rfl, hbd, d1, d2, d3⟩ := sl_at (KI.out.sl _ HMl.out) hlt2
                have HHas := Lib.hid (HA.out.has s hms)
                clear hs hms
                go_wp2_with fail
                refine (Has_is _ a s true 0 _ (KI.out.sl _ HMa.out) Hla.out.1 HHas.out).mono ?_
                rintro e w10 ⟨rfl, hb⟩
                have HB2 := Lib.hid (HBi.out.trans (hb.mono HBi.out.size))
                clear hb KI
                go_wp2_with fail
                go_roundw
                case rel => exact ⟨i + 1, by go_num, by omega, HB2.out⟩
                case measure => simp [intOf]; omega
              · clear K8
                go_wp2_with fail
                have Hm60 := Lib.hid (show m.length ≤ 4096 from by have h1 := HA.out.len; omega)
                rcases HA.out.c6 with ⟨d, x, y, e1, hd, e2, e3, hcase⟩ | e1
                · have HC := Lib.hid (And.intro hd (And.intro e2 (And.intro e3 hcase)))
                  refine (NormalOut_is _ m d 0 _ (KI.out.sl _ HMm.out) Hm60.out e1).mono ?_
                  rintro e w10 ⟨⟨xd, rfl, hs⟩, hb⟩
                  have L1 := Lib.hid (And.intro (KI.out.step hb) hs)
                  clear hs hb KI hd e1 e2 e3 hcase
                  go_wp2_with fail
                  refine (Minus_is _ _ a d x _ (L1.out.1.sl _ HMa.out) L1.out.2 Hla.out.1 (by have := HC.out.1; omega) HC.out.2.1).mono ?_
                  rintro e w11 ⟨⟨xx, rfl, hs⟩, hb⟩
                  obtain ⟨A5, c5, rfl⟩ := sl_form hs
                  have L2 := Lib.hid (And.intro (L1.out.1.step hb) (L1.out.2.step hb))
                  clear hs hb L1
                  go_wp2_with fail
                  refine (Minus_is _ _ d a y _ L2.out.2 (L2.out.1.sl _ HMa.out) (by have := HC.out.1; omega) Hla.out.1 HC.out.2.2.1).mono ?_
                  rintro e w12 ⟨⟨xy, rfl, hs⟩, hb⟩
                  obtain ⟨A6, c6, rfl⟩ := sl_form hs
                  have L3 := Lib.hid (And.intro (L2.out.1.step hb) (L2.out.2.step hb))
                  clear hs hb L2
                  have hcs := HC.out.2.2.2
                  generalize hx5 : x.length = n5 at *
                  generalize hy5 : y.length = n6 at *
                  clear hx5 hy5
                  rcases hcs with ⟨⟨rfl, rfl⟩, he⟩ | ⟨hne, he⟩
                  · go_wp2_with fail
                    refine (SameSq_is _ _ a d true _ (L3.out.1.sl _ HMa.out) L3.out.2 Hla.out.1 he).mono ?_
                    rintro e w13 ⟨rfl, hb⟩
                    have L4 := Lib.hid (L3.out.1.step hb)
                    clear hb L3
                    go_wp2_with fail
                    go_ret
                    exact ⟨rfl, L4.out.bel⟩
                  · by_cases h5 : (n5 : Int) = 0
                    · have h6 : ¬ (n6 : Int) = 0 := fun h => hne ⟨by omega, by omega⟩
                      go_wp2_with fail
                      refine (SameSq_is _ _ a d false _ (L3.out.1.sl _ HMa.out) L3.out.2 Hla.out.1 he).mono ?_
                      rintro e w13 ⟨rfl, hb⟩
                      have L4 := Lib.hid (L3.out.1.step hb)
                      clear hb L3
                      go_wp2_with fail
                      go_ret
                      exact ⟨ret_b (by simp; omega), L4.out.bel⟩
                    · go_wp2_with fail
                      refine (SameSq_is _ _ a d false _ (L3.out.1.sl _ HMa.out) L3.out.2 Hla.out.1 he).mono ?_
                      rintro e w13 ⟨rfl, hb⟩
                      have L4 := Lib.hid (L3.out.1.step hb)
                      clear hb L3
                      go_wp2_with fail
                      go_ret
                      exact ⟨ret_b (by simp), L4.out.bel⟩
                · refine (NormalOut_is _ m [] 10 _ (KI.out.sl _ HMm.out) Hm60.out e1).mono ?_
                  rintro e w10 ⟨⟨xd, rfl, hs⟩, hb⟩
                  have L1 := Lib.hid (And.intro (KI.out.step hb) hs)
                  clear hs hb KI e1
                  go_wp2_with fail
                  refine (Minus_any _ _ a [] _ (L1.out.1.sl _ HMa.out) L1.out.2 (by have := Hla.out.1; omega) (by simp)).mono ?_
                  generalize minusOut a [] = o1
                  rintro e w11 ⟨⟨A5, c5, rfl, _⟩, hb⟩
                  have L2 := Lib.hid (And.intro (L1.out.1.step hb) (L1.out.2.step hb))
                  clear hb L1
                  go_wp2_with fail
                  refine (Minus_any _ _ [] a _ L2.out.2 (L2.out.1.sl _ HMa.out) (by simp) (by have := Hla.out.1; omega)).mono ?_
                  generalize minusOut [] a = o2
                  rintro e w12 ⟨⟨A6, c6, rfl, _⟩, hb⟩
                  have L3 := Lib.hid (L2.out.1.step hb)
                  clear hb L2
                  go_wp2_with fail
                  go_ret
                  exact ⟨rfl, L3.out.bel⟩
      · refine (NormalOut_is _ l [] 10 _ (HS.out.1.step H1.out) (by have := HL.out; omega) (norm_bad hok (by have := HL.out; omega))).mono ?_
        rintro e w2 ⟨⟨x, rfl, _⟩, hb2⟩
        have H2 := Lib.hid (H1.out.trans (hb2.mono H1.out.size))
        clear hb2
        go_wp2_with fail
        go_ret
        exact ⟨rfl, H2.out⟩
end Go.Proofs.YtabolonlkocopaaDoor
