/- PlacesBack: the walk. -/
import Derived.Test.YtabolonlkocopaaDoorBckN
namespace Go.Proofs.YtabolonlkocopaaDoor
open Go.RowKit Go.Plc

theorem arr_of (s : ByteArray) : (⟨s.data.toList.toArray⟩ : ByteArray) = s := by cases s; simp

/-- what both readings of a text may come to, and that the text of what is read is the text -/
theorem night_det (n : Int) (w : World) : ∃ (tx : List UInt8) (E : Int), (∀ w, MonthDays w → TabW w → Calls Tryd.prog 50 #[.int .i64 n] w fun e w' => e = .returned (.tuple #[.string ⟨tx.toArray⟩, .int .i64 E]) ∧ Below w.heap.size w w') ∧
    ((E = 0 ∧ tx.length ≤ 1000 ∧ NightOfText tx n) ∨ (E = 1 ∧ tx = [] ∧ ¬ (0 ≤ n ∧ n ≤ 99999))) := by
  by_cases hn : 0 ≤ n ∧ n ≤ 99999
  · obtain ⟨y, m, d, hv, hnm⟩ := date_has w hn.1 (by omega)
    obtain ⟨y', m', d', hv', hnm'⟩ := date_has (n := n + 1) w (by omega) (by omega)
    have hl : (nightT y m d y' m' d').length ≤ 1000 := by
      have l1 := dateT_len y m d hv
      have l2 := dateT_len y' m' d' hv'
      obtain ⟨v1, v2, v3, v4, v5, v6⟩ := (vdate_iff y' m' d').1 hv'
      have hdm := dom_bd y' m'
      have l3 := two_len m' (by omega) (by omega)
      have l4 := two_len d' (by omega) (by omega)
      unfold nightT
      split
      · simp only [List.length_append, List.length_cons, List.length_nil]; omega
      · split <;> simp only [List.length_append, List.length_cons, List.length_nil] <;> omega
    refine ⟨nightT y m d y' m' d', 0, fun w hM hT => (PrintNight_any n w hM hT).mono ?_, .inl ⟨rfl, hl, y, m, d, y', m', d', hv, hnm, hn.2, hv', hnm', rfl⟩⟩
    rintro e w' ⟨(⟨_, _, y1, m1, d1, y2, m2, d2, rfl, h1, h2, h3, h4⟩ | ⟨hno, rfl⟩), hb⟩
    · obtain ⟨rfl, rfl, rfl⟩ := date_one h1 hv (h2.trans hnm.symm)
      obtain ⟨rfl, rfl, rfl⟩ := date_one h3 hv' (h4.trans hnm'.symm)
      exact ⟨rfl, hb⟩
    · exact absurd hn hno
  · refine ⟨[], 1, fun w hM hT => (PrintNight_any n w hM hT).mono ?_, .inr ⟨rfl, rfl, hn⟩⟩
    rintro e w' ⟨(⟨h0, h1, _⟩ | ⟨hno, rfl⟩), hb⟩
    · exact absurd ⟨h0, h1⟩ hn
    · exact ⟨rfl, hb⟩
theorem text_one {cs : List UInt8} {n n' : Int} (h : NightOfText cs n) (h' : NightOfText cs n') : n = n' := by
  obtain ⟨p, q, e, _, h2, _⟩ := night_of_text h
  obtain ⟨p', q', e', _, h2', _⟩ := night_of_text h'
  rw [e] at e'
  injection e' with e1 e2
  subst e1
  exact h2.symm.trans h2'
theorem text_same {cs cs' : List UInt8} {n : Int} (h : NightOfText cs n) (h' : NightOfText cs' n) : cs = cs' := by
  obtain ⟨y, m, d, y', m', d', h1, h2, h3, h4, h5, rfl⟩ := h
  obtain ⟨z, k, c, z', k', c', g1, g2, g3, g4, g5, rfl⟩ := h'
  obtain ⟨rfl, rfl, rfl⟩ := date_one h1 g1 (h2.trans g2.symm)
  obtain ⟨rfl, rfl, rfl⟩ := date_one h4 g4 (h5.trans g5.symm)
  rfl
theorem text_rng {cs : List UInt8} {n : Int} (h : NightOfText cs n) : 0 ≤ n ∧ n ≤ 99999 := by
  obtain ⟨y, m, d, y', m', d', h1, h2, h3, h4, h5, rfl⟩ := h
  obtain ⟨v1, v2, v3, v4, v5, v6⟩ := (vdate_iff y m d).1 h1
  have := num_bd v3 v4 v5 v6
  have := dby_bd v1 (show y ≤ 274 by omega)
  omega
/-- reading a text, with one result -/
theorem parse_det (cs : List UInt8) (hc : cs.length ≤ 1000000) : ∃ n E : Int, (∀ w, MonthDays w → TabW w → Calls Tryd.prog 51 #[.string ⟨cs.toArray⟩] w fun e w' => e = .returned (.tuple #[.int .i64 n, .int .i64 E]) ∧ Below w.heap.size w w') ∧
    ((E = 0 ∧ NightOfText cs n) ∨ (E = 13 ∧ ∀ n', ¬ NightOfText cs n')) := by
  by_cases h : ∃ n, NightOfText cs n
  · obtain ⟨n, hn⟩ := h
    refine ⟨n, 0, fun w hM hT => (ParseNight_any cs w hM hT hc).mono ?_, .inl ⟨rfl, hn⟩⟩
    rintro e w' ⟨(⟨n', rfl, h1⟩ | ⟨rfl, h1⟩), hb⟩
    · rw [text_one h1 hn]; exact ⟨rfl, hb⟩
    · exact absurd hn (h1 n)
  · refine ⟨0, 13, fun w hM hT => (ParseNight_any cs w hM hT hc).mono ?_, .inr ⟨rfl, fun n hn => h ⟨n, hn⟩⟩⟩
    rintro e w' ⟨(⟨n', rfl, h1⟩ | ⟨rfl, h1⟩), hb⟩
    · exact absurd ⟨n', h1⟩ h
    · exact ⟨rfl, hb⟩
set_option maxRecDepth 100000 in
set_option maxHeartbeats 16000000 in
theorem PlacesBack_any (s : Sq) (n : Int) (cs : List UInt8) (w : World) (hM : MonthDays w) (hT : TabW w) :
    Calls Tryd.prog 12 #[sqv s, .int .i64 n, .string ⟨cs.toArray⟩] w fun e w' => e = .returned (.bool true) ∧ Below w.heap.size w w' := by
  have HM := Lib.hid hM
  have HT := Lib.hid hT
  have hs1 : (⟨cs.toArray⟩ : ByteArray).size = cs.length := by simp [ByteArray.size]
  obtain ⟨tx, E, hP, hPE⟩ := night_det n w
  have HP := Lib.hid hP
  have HPE := Lib.hid hPE
  have HPs := Lib.hid (fun w h => PrintSquare_any s w h)
  have K0 := Lib.hid (show KB w [(w.heap.size, sqO s)] [] (w.alloc (sqO s)) from (KB.mk (Below.refl _ _) (fun p hp => (by cases hp)) (fun q hq => (by cases hq)) : KB w [] [] w).new (sqO s))
  clear hM hT hP hPE
  unfold sqv at *
  unfold sqO at K0
  go_enter Tryd.func12, Tryd.ntmps12
  go_wp2_with fail
  refine (awake_any _ (HM.out.below K0.out.bel) (HT.out.below K0.out.bel)).mono ?_
  rintro e x1 ⟨rfl, hb1⟩
  have K1 := Lib.hid (K0.out.step hb1)
  clear hb1 K0
  by_cases hbig : 1000 < cs.length
  · go_wp2_with fail
    go_ret
    exact ⟨rfl, K1.out.bel⟩
  · have hc : cs.length ≤ 1000000 := by omega
    obtain ⟨n2, E2, hQ, hQE⟩ := parse_det cs hc
    have HQ := Lib.hid (And.intro hQ hQE)
    have HPa := Lib.hid (fun w h => ParseSquare_any cs w h hc)
    clear hQ hQE
    obtain ⟨a0, a1, a2⟩ := sq_cells (s := s) (K1.out.mem (w.heap.size, _) List.mem_cons_self)
    go_wp2_with fail
    cases hok : s.okB
    · rw [show printOut s = ([], 10) by unfold printOut; rw [hok]; rfl] at HPs
      clear hok
      refine (HPs.out _ (HT.out.below K1.out.bel)).mono ?_
      rintro e x2 ⟨rfl, hb2⟩
      have K2 := Lib.hid (K1.out.step hb2)
      clear hb2 K1 a0 a1 a2
      go_wp2_with fail
      refine (HP.out _ (HM.out.below K2.out.bel) (HT.out.below K2.out.bel)).mono ?_
      rintro e x3 ⟨rfl, hb3⟩
      have K3 := Lib.hid (K2.out.step hb3)
      clear hb3
      rcases HPE.out with ⟨rfl, htl, hnt⟩ | ⟨rfl, rfl, hnt⟩
      · have HPn := Lib.hid (fun w hM hT => ParseNight_any tx w hM hT (by omega))
        have HNt := Lib.hid hnt
        clear hnt htl
        go_wp2_with fail
        refine (HPn.out _ (HM.out.below K3.out.bel) (HT.out.below K3.out.bel)).mono ?_
        rintro e x4 ⟨hor, hb4⟩
        have K4 := Lib.hid (K3.out.step hb4)
        clear hb4
        rcases hor with ⟨n4, rfl, hn4⟩ | ⟨rfl, hno⟩
        · obtain rfl := text_one hn4 HNt.out
          clear hn4
          go_wp2_with fail
          refine (HPa.out _ (HT.out.below K4.out.bel)).mono ?_
          rintro e x5 ⟨rfl, hb5⟩
          have K5 := Lib.hid ((K4.out.step hb5).new (sqO (parseS cs).1))
          clear hb5
          unfold sqO at K5
          have HTx := Lib.hid (parse_text (cs := cs))
          generalize parseS cs = pr at *
          obtain ⟨q, er⟩ := pr
          unfold sqv
          (try dsimp only at *)
          by_cases her : er = 0
          · subst her
            obtain ⟨hq1, hq2⟩ := HTx.out rfl
            have HPq := Lib.hid (fun w h => PrintSquare_any q w h)
            rw [show printOut q = (cs, 0) by unfold printOut; rw [hq1, hq2]; rfl] at HPq
            unfold sqv at HPq
            have HQq := Lib.hid (And.intro hq1 hq2)
            clear hq1 hq2
            (try clear a0 a1 a2)
            obtain ⟨b0, b1, b2⟩ := sq_cells (s := q) (K5.out.mem (x5.heap.size, _) List.mem_cons_self)
            go_wp2_with fail
            refine (HPq.out _ (HT.out.below K5.out.bel)).mono ?_
            rintro e x6 ⟨rfl, hb6⟩
            have K6 := Lib.hid (K5.out.step hb6)
            clear hb6 K5 b0 b1 b2
            go_wp2_with fail
            refine (HQ.out.1 _ (HM.out.below K6.out.bel) (HT.out.below K6.out.bel)).mono ?_
            rintro e x7 ⟨rfl, hb7⟩
            have K7 := Lib.hid (K6.out.step hb7)
            clear hb7
            rcases HQ.out.2 with ⟨rfl, hnt⟩ | ⟨rfl, hnt⟩
            · obtain ⟨tx2, E3, hP2, hPE2⟩ := night_det n2 w
              rcases hPE2 with ⟨rfl, _, hnt2⟩ | ⟨_, _, hno⟩
              · have e3 := text_same hnt2 hnt
                subst e3
                have HP2 := Lib.hid hP2
                clear hP2 hnt hnt2
                go_wp2_with fail
                refine (HP2.out _ (HM.out.below K7.out.bel) (HT.out.below K7.out.bel)).mono ?_
                rintro e x8 ⟨rfl, hb8⟩
                have K8 := Lib.hid (K7.out.step hb8)
                clear hb8
                go_wp2_with fail
                go_ret
                exact ⟨ret_b (by simp), K8.out.bel⟩
              · exact absurd (text_rng hnt) hno
            · clear hnt
              go_wp2_with fail
              go_ret
              exact ⟨rfl, K7.out.bel⟩
          · have her1 : (er == 0) = false := by simpa using her
            clear her
            go_wp2_with fail
            refine (HQ.out.1 _ (HM.out.below K5.out.bel) (HT.out.below K5.out.bel)).mono ?_
            rintro e x7 ⟨rfl, hb7⟩
            have K7 := Lib.hid (K5.out.step hb7)
            clear hb7
            rcases HQ.out.2 with ⟨rfl, hnt⟩ | ⟨rfl, hnt⟩
            · obtain ⟨tx2, E3, hP2, hPE2⟩ := night_det n2 w
              rcases hPE2 with ⟨rfl, _, hnt2⟩ | ⟨_, _, hno⟩
              · have e3 := text_same hnt2 hnt
                subst e3
                have HP2 := Lib.hid hP2
                clear hP2 hnt hnt2
                go_wp2_with fail
                refine (HP2.out _ (HM.out.below K7.out.bel) (HT.out.below K7.out.bel)).mono ?_
                rintro e x8 ⟨rfl, hb8⟩
                have K8 := Lib.hid (K7.out.step hb8)
                clear hb8
                go_wp2_with fail
                go_ret
                exact ⟨ret_b (by simp), K8.out.bel⟩
              · exact absurd (text_rng hnt) hno
            · clear hnt
              go_wp2_with fail
              go_ret
              exact ⟨rfl, K7.out.bel⟩
        · exact absurd HNt.out (hno n)
      · clear hnt
        go_wp2_with fail
        refine (HPa.out _ (HT.out.below K3.out.bel)).mono ?_
        rintro e x5 ⟨rfl, hb5⟩
        have K5 := Lib.hid ((K3.out.step hb5).new (sqO (parseS cs).1))
        clear hb5
        unfold sqO at K5
        have HTx := Lib.hid (parse_text (cs := cs))
        generalize parseS cs = pr at *
        obtain ⟨q, er⟩ := pr
        unfold sqv
        (try dsimp only at *)
        by_cases her : er = 0
        · subst her
          obtain ⟨hq1, hq2⟩ := HTx.out rfl
          have HPq := Lib.hid (fun w h => PrintSquare_any q w h)
          rw [show printOut q = (cs, 0) by unfold printOut; rw [hq1, hq2]; rfl] at HPq
          unfold sqv at HPq
          have HQq := Lib.hid (And.intro hq1 hq2)
          clear hq1 hq2
          (try clear a0 a1 a2)
          obtain ⟨b0, b1, b2⟩ := sq_cells (s := q) (K5.out.mem (x5.heap.size, _) List.mem_cons_self)
          go_wp2_with fail
          refine (HPq.out _ (HT.out.below K5.out.bel)).mono ?_
          rintro e x6 ⟨rfl, hb6⟩
          have K6 := Lib.hid (K5.out.step hb6)
          clear hb6 K5 b0 b1 b2
          go_wp2_with fail
          refine (HQ.out.1 _ (HM.out.below K6.out.bel) (HT.out.below K6.out.bel)).mono ?_
          rintro e x7 ⟨rfl, hb7⟩
          have K7 := Lib.hid (K6.out.step hb7)
          clear hb7
          rcases HQ.out.2 with ⟨rfl, hnt⟩ | ⟨rfl, hnt⟩
          · obtain ⟨tx2, E3, hP2, hPE2⟩ := night_det n2 w
            rcases hPE2 with ⟨rfl, _, hnt2⟩ | ⟨_, _, hno⟩
            · have e3 := text_same hnt2 hnt
              subst e3
              have HP2 := Lib.hid hP2
              clear hP2 hnt hnt2
              go_wp2_with fail
              refine (HP2.out _ (HM.out.below K7.out.bel) (HT.out.below K7.out.bel)).mono ?_
              rintro e x8 ⟨rfl, hb8⟩
              have K8 := Lib.hid (K7.out.step hb8)
              clear hb8
              go_wp2_with fail
              go_ret
              exact ⟨ret_b (by simp), K8.out.bel⟩
            · exact absurd (text_rng hnt) hno
          · clear hnt
            go_wp2_with fail
            go_ret
            exact ⟨rfl, K7.out.bel⟩
        · have her1 : (er == 0) = false := by simpa using her
          clear her
          go_wp2_with fail
          refine (HQ.out.1 _ (HM.out.below K5.out.bel) (HT.out.below K5.out.bel)).mono ?_
          rintro e x7 ⟨rfl, hb7⟩
          have K7 := Lib.hid (K5.out.step hb7)
          clear hb7
          rcases HQ.out.2 with ⟨rfl, hnt⟩ | ⟨rfl, hnt⟩
          · obtain ⟨tx2, E3, hP2, hPE2⟩ := night_det n2 w
            rcases hPE2 with ⟨rfl, _, hnt2⟩ | ⟨_, _, hno⟩
            · have e3 := text_same hnt2 hnt
              subst e3
              have HP2 := Lib.hid hP2
              clear hP2 hnt hnt2
              go_wp2_with fail
              refine (HP2.out _ (HM.out.below K7.out.bel) (HT.out.below K7.out.bel)).mono ?_
              rintro e x8 ⟨rfl, hb8⟩
              have K8 := Lib.hid (K7.out.step hb8)
              clear hb8
              go_wp2_with fail
              go_ret
              exact ⟨ret_b (by simp), K8.out.bel⟩
            · exact absurd (text_rng hnt) hno
          · clear hnt
            go_wp2_with fail
            go_ret
            exact ⟨rfl, K7.out.bel⟩
    · rw [show printOut s = (sqT s, 0) by unfold printOut; rw [hok]; rfl] at HPs
      have hlt : (sqT s).length ≤ 1000000 := by
        obtain ⟨v1, v2, v3, v4, v5, v6⟩ := (Sq.okB_iff s).1 hok
        have hsd := side_le s.l v1
        have l1 := Lib.itoa_length_le s.l (by omega) (by omega)
        have l2 := Lib.itoa_length_le s.x (by omega) (by omega)
        have l3 := Lib.itoa_length_le s.y (by omega) (by omega)
        unfold sqT; simp only [List.length_append, List.length_cons, List.length_nil]; omega
      have HPo := Lib.hid (fun w h => ParseSquare_any (sqT s) w h hlt)
      rw [parse_own hok] at HPo
      unfold sqv at HPo
      clear hok hlt
      refine (HPs.out _ (HT.out.below K1.out.bel)).mono ?_
      rintro e x2 ⟨rfl, hb2⟩
      have K2 := Lib.hid (K1.out.step hb2)
      clear hb2 K1 a0 a1 a2
      go_wp2_with fail
      refine (HPo.out _ (HT.out.below K2.out.bel)).mono ?_
      rintro e xb ⟨rfl, hbb⟩
      have KBx := Lib.hid ((K2.out.step hbb).new (sqO s))
      have kb := K2.out.step hbb
      have hg1 : w.heap.size < xb.heap.size := kb.lt List.mem_cons_self
      obtain ⟨a0, a1, a2⟩ := sq_cells (s := s) (kb.mem (w.heap.size, _) List.mem_cons_self)
      clear hbb K2 kb
      unfold sqO at KBx
      go_wp2_with fail
      refine (HP.out _ (HM.out.below KBx.out.bel) (HT.out.below KBx.out.bel)).mono ?_
      rintro e x3 ⟨rfl, hb3⟩
      have K3 := Lib.hid (KBx.out.step hb3)
      clear hb3
      rcases HPE.out with ⟨rfl, htl, hnt⟩ | ⟨rfl, rfl, hnt⟩
      · have HPn := Lib.hid (fun w hM hT => ParseNight_any tx w hM hT (by omega))
        have HNt := Lib.hid hnt
        clear hnt htl
        go_wp2_with fail
        refine (HPn.out _ (HM.out.below K3.out.bel) (HT.out.below K3.out.bel)).mono ?_
        rintro e x4 ⟨hor, hb4⟩
        have K4 := Lib.hid (K3.out.step hb4)
        clear hb4
        rcases hor with ⟨n4, rfl, hn4⟩ | ⟨rfl, hno⟩
        · obtain rfl := text_one hn4 HNt.out
          clear hn4
          go_wp2_with fail
          refine (HPa.out _ (HT.out.below K4.out.bel)).mono ?_
          rintro e x5 ⟨rfl, hb5⟩
          have K5 := Lib.hid ((K4.out.step hb5).new (sqO (parseS cs).1))
          clear hb5
          unfold sqO at K5
          have HTx := Lib.hid (parse_text (cs := cs))
          generalize parseS cs = pr at *
          obtain ⟨q, er⟩ := pr
          unfold sqv
          (try dsimp only at *)
          by_cases her : er = 0
          · subst her
            obtain ⟨hq1, hq2⟩ := HTx.out rfl
            have HPq := Lib.hid (fun w h => PrintSquare_any q w h)
            rw [show printOut q = (cs, 0) by unfold printOut; rw [hq1, hq2]; rfl] at HPq
            unfold sqv at HPq
            have HQq := Lib.hid (And.intro hq1 hq2)
            clear hq1 hq2
            (try clear a0 a1 a2)
            obtain ⟨b0, b1, b2⟩ := sq_cells (s := q) (K5.out.mem (x5.heap.size, _) List.mem_cons_self)
            go_wp2_with fail
            refine (HPq.out _ (HT.out.below K5.out.bel)).mono ?_
            rintro e x6 ⟨rfl, hb6⟩
            have K6 := Lib.hid (K5.out.step hb6)
            clear hb6 K5 b0 b1 b2
            go_wp2_with fail
            refine (HQ.out.1 _ (HM.out.below K6.out.bel) (HT.out.below K6.out.bel)).mono ?_
            rintro e x7 ⟨rfl, hb7⟩
            have K7 := Lib.hid (K6.out.step hb7)
            clear hb7
            rcases HQ.out.2 with ⟨rfl, hnt⟩ | ⟨rfl, hnt⟩
            · obtain ⟨tx2, E3, hP2, hPE2⟩ := night_det n2 w
              rcases hPE2 with ⟨rfl, _, hnt2⟩ | ⟨_, _, hno⟩
              · have e3 := text_same hnt2 hnt
                subst e3
                have HP2 := Lib.hid hP2
                clear hP2 hnt hnt2
                go_wp2_with fail
                refine (HP2.out _ (HM.out.below K7.out.bel) (HT.out.below K7.out.bel)).mono ?_
                rintro e x8 ⟨rfl, hb8⟩
                have K8 := Lib.hid (K7.out.step hb8)
                clear hb8
                go_wp2_with fail
                go_ret
                exact ⟨ret_b (by simp), K8.out.bel⟩
              · exact absurd (text_rng hnt) hno
            · clear hnt
              go_wp2_with fail
              go_ret
              exact ⟨rfl, K7.out.bel⟩
          · have her1 : (er == 0) = false := by simpa using her
            clear her
            go_wp2_with fail
            refine (HQ.out.1 _ (HM.out.below K5.out.bel) (HT.out.below K5.out.bel)).mono ?_
            rintro e x7 ⟨rfl, hb7⟩
            have K7 := Lib.hid (K5.out.step hb7)
            clear hb7
            rcases HQ.out.2 with ⟨rfl, hnt⟩ | ⟨rfl, hnt⟩
            · obtain ⟨tx2, E3, hP2, hPE2⟩ := night_det n2 w
              rcases hPE2 with ⟨rfl, _, hnt2⟩ | ⟨_, _, hno⟩
              · have e3 := text_same hnt2 hnt
                subst e3
                have HP2 := Lib.hid hP2
                clear hP2 hnt hnt2
                go_wp2_with fail
                refine (HP2.out _ (HM.out.below K7.out.bel) (HT.out.below K7.out.bel)).mono ?_
                rintro e x8 ⟨rfl, hb8⟩
                have K8 := Lib.hid (K7.out.step hb8)
                clear hb8
                go_wp2_with fail
                go_ret
                exact ⟨ret_b (by simp), K8.out.bel⟩
              · exact absurd (text_rng hnt) hno
            · clear hnt
              go_wp2_with fail
              go_ret
              exact ⟨rfl, K7.out.bel⟩
        · exact absurd HNt.out (hno n)
      · clear hnt
        go_wp2_with fail
        refine (HPa.out _ (HT.out.below K3.out.bel)).mono ?_
        rintro e x5 ⟨rfl, hb5⟩
        have K5 := Lib.hid ((K3.out.step hb5).new (sqO (parseS cs).1))
        clear hb5
        unfold sqO at K5
        have HTx := Lib.hid (parse_text (cs := cs))
        generalize parseS cs = pr at *
        obtain ⟨q, er⟩ := pr
        unfold sqv
        (try dsimp only at *)
        by_cases her : er = 0
        · subst her
          obtain ⟨hq1, hq2⟩ := HTx.out rfl
          have HPq := Lib.hid (fun w h => PrintSquare_any q w h)
          rw [show printOut q = (cs, 0) by unfold printOut; rw [hq1, hq2]; rfl] at HPq
          unfold sqv at HPq
          have HQq := Lib.hid (And.intro hq1 hq2)
          clear hq1 hq2
          (try clear a0 a1 a2)
          obtain ⟨b0, b1, b2⟩ := sq_cells (s := q) (K5.out.mem (x5.heap.size, _) List.mem_cons_self)
          go_wp2_with fail
          refine (HPq.out _ (HT.out.below K5.out.bel)).mono ?_
          rintro e x6 ⟨rfl, hb6⟩
          have K6 := Lib.hid (K5.out.step hb6)
          clear hb6 K5 b0 b1 b2
          go_wp2_with fail
          refine (HQ.out.1 _ (HM.out.below K6.out.bel) (HT.out.below K6.out.bel)).mono ?_
          rintro e x7 ⟨rfl, hb7⟩
          have K7 := Lib.hid (K6.out.step hb7)
          clear hb7
          rcases HQ.out.2 with ⟨rfl, hnt⟩ | ⟨rfl, hnt⟩
          · obtain ⟨tx2, E3, hP2, hPE2⟩ := night_det n2 w
            rcases hPE2 with ⟨rfl, _, hnt2⟩ | ⟨_, _, hno⟩
            · have e3 := text_same hnt2 hnt
              subst e3
              have HP2 := Lib.hid hP2
              clear hP2 hnt hnt2
              go_wp2_with fail
              refine (HP2.out _ (HM.out.below K7.out.bel) (HT.out.below K7.out.bel)).mono ?_
              rintro e x8 ⟨rfl, hb8⟩
              have K8 := Lib.hid (K7.out.step hb8)
              clear hb8
              go_wp2_with fail
              go_ret
              exact ⟨ret_b (by simp), K8.out.bel⟩
            · exact absurd (text_rng hnt) hno
          · clear hnt
            go_wp2_with fail
            go_ret
            exact ⟨rfl, K7.out.bel⟩
        · have her1 : (er == 0) = false := by simpa using her
          clear her
          go_wp2_with fail
          refine (HQ.out.1 _ (HM.out.below K5.out.bel) (HT.out.below K5.out.bel)).mono ?_
          rintro e x7 ⟨rfl, hb7⟩
          have K7 := Lib.hid (K5.out.step hb7)
          clear hb7
          rcases HQ.out.2 with ⟨rfl, hnt⟩ | ⟨rfl, hnt⟩
          · obtain ⟨tx2, E3, hP2, hPE2⟩ := night_det n2 w
            rcases hPE2 with ⟨rfl, _, hnt2⟩ | ⟨_, _, hno⟩
            · have e3 := text_same hnt2 hnt
              subst e3
              have HP2 := Lib.hid hP2
              clear hP2 hnt hnt2
              go_wp2_with fail
              refine (HP2.out _ (HM.out.below K7.out.bel) (HT.out.below K7.out.bel)).mono ?_
              rintro e x8 ⟨rfl, hb8⟩
              have K8 := Lib.hid (K7.out.step hb8)
              clear hb8
              go_wp2_with fail
              go_ret
              exact ⟨ret_b (by simp), K8.out.bel⟩
            · exact absurd (text_rng hnt) hno
          · clear hnt
            go_wp2_with fail
            go_ret
            exact ⟨rfl, K7.out.bel⟩
end Go.Proofs.YtabolonlkocopaaDoor
