/- PlacesFamily: the walk. -/
import Derived.Test.YtabolonlkocopaaDoorReg3
import Derived.Deep.DeepCutAuto
namespace Go.Proofs.YtabolonlkocopaaDoor
open Go.RowKit Go.Plc

theorem parent_cases (a : Sq) : (a.okB = true ∧ a.l ≠ 10 ∧ parentOut a = (parS a, 0)) ∨ (∃ er : Int, parentOut a = (zeroSq, er) ∧ (er == 0) = false) := by
  unfold parentOut
  cases h : a.okB
  · exact .inr ⟨10, rfl, rfl⟩
  · by_cases h2 : a.l = 10
    · exact .inr ⟨1, by simp [h2], rfl⟩
    · exact .inl ⟨rfl, h2, by simp [h2]⟩
/-- how often a square stands in a list -/
def cntS (a : Sq) (L : List Sq) : Nat := (L.filter fun t => decide (t = a)).length
theorem cnt_take {a s : Sq} {L : List Sq} {i : Nat} (h : L[i]? = some s) : cntS a (L.take (i + 1)) = cntS a (L.take i) + (if s = a then 1 else 0) := by
  obtain ⟨hi, rfl⟩ := List.getElem?_eq_some_iff.1 h
  unfold cntS
  rw [List.take_succ_eq_append_getElem hi, List.filter_append, List.length_append]
  congr 1
  by_cases e : L[i] = a <;> simp [e]
theorem cnt_kids {a p : Sq} (h : a ∈ kidsS p) : cntS a (kidsS p) = 1 := by
  unfold kidsS at h
  simp only [List.mem_cons, List.not_mem_nil, or_false] at h
  have h1 : ¬ (2 * p.x = 2 * p.x + 1) := by omega
  have h2 : ¬ (2 * p.y = 2 * p.y + 1) := by omega
  have h3 : ¬ (2 * p.x + 1 = 2 * p.x) := by omega
  have h4 : ¬ (2 * p.y + 1 = 2 * p.y) := by omega
  unfold cntS kidsS
  rcases h with rfl | rfl | rfl | rfl <;> simp only [List.filter_cons, List.filter_nil, Sq.mk.injEq, h1, h2, h3, h4, and_self, and_true, and_false, decide_true, decide_false] <;> rfl
theorem child_of_par {a : Sq} (h : a.okB = true) (h10 : a.l ≠ 10) : childOut (parS a) = (kidsS (parS a), 0) := by
  unfold childOut
  rw [par_ok' h h10, if_pos rfl, if_neg (by show a.l + 1 ≠ 0; have := ok_l h; omega)]
theorem parent_of_kid {a s : Sq} (h : a.okB = true) (h10 : a.l ≠ 10) (hs : s ∈ kidsS (parS a)) : parentOut s = (parS a, 0) := by
  have h0 := ok_l h
  have hk := kid_ok (par_ok' h h10) hs (by show 1 ≤ a.l + 1; omega)
  have hl := (mem_kids.1 hs).1
  have e : (parS a).l = a.l + 1 := rfl
  unfold parentOut
  rw [hk, if_pos rfl, if_neg (by omega), par_of_kid hs]

theorem sl_one {X : World} {g : Nat} {s : Sq} {t : TypeId} (h : X.heap[g]? = some (.cells #[.int .i64 s.l, .int .i64 s.x, .int .i64 s.y] t)) : SqSl X X.heap.size (.slice (some ⟨g, 0, none⟩) 1 1) [s] := by
  obtain ⟨h0, h1, h2⟩ := sq_cells h
  refine ⟨some ⟨g, 0, none⟩, 1, rfl, fun i r hr => ?_⟩
  have hi : i = 0 := by have := (List.getElem?_eq_some_iff.1 hr).1; simpa using this
  subst hi
  obtain rfl : s = r := by simpa using hr
  exact ⟨_, rfl, (Array.getElem?_eq_some_iff.1 h).1, h0, h1, h2⟩
theorem within_cases (a b : Sq) : (a.okB = true ∧ b.okB = true ∧ withinOut a b = (withinS a b, 0) ∧ withinOut b a = (withinS b a, 0)) ∨ (withinOut a b = (false, 10) ∧ withinOut b a = (false, 10)) := by
  unfold withinOut
  cases a.okB <;> cases b.okB <;> simp
theorem blur_cases (a : Sq) (x : Int) : (a.okB = true ∧ a.l ≤ x ∧ x ≤ 10 ∧ blurOut a x = (blurS a x, 0)) ∨ (∃ er : Int, blurOut a x = (zeroSq, er) ∧ (er != 0) = true ∧ ¬ (a.okB = true ∧ a.l ≤ x ∧ x ≤ 10)) := by
  unfold blurOut
  cases h : a.okB
  · exact .inr ⟨10, rfl, rfl, by simp⟩
  · by_cases h2 : a.l ≤ x ∧ x ≤ 10
    · exact .inl ⟨rfl, h2.1, h2.2, by simp [h2]⟩
    · exact .inr ⟨1, by simp [h2], rfl, fun h => h2 h.2⟩

set_option maxRecDepth 100000 in
set_option maxHeartbeats 16000000 in
theorem PlacesFamily_any (a b : Sq) (x y : Int) (w : World) (hM : MonthDays w) (hT : TabW w) :
    Calls Tryd.prog 5 #[sqv a, sqv b, .int .i64 x, .int .i64 y] w fun e w' => e = .returned (.bool true) ∧ Below w.heap.size w w' := by
  have HM := Lib.hid hM
  have HT := Lib.hid hT
  have K2 := Lib.hid (show KB w [(w.heap.size + 1, sqO b), (w.heap.size, sqO a)] [] ((w.alloc (sqO a)).alloc (sqO b)) from by
    have h := ((KB.mk (Below.refl _ _) (fun p hp => (by cases hp)) (fun q hq => (by cases hq)) : KB w [] [] w).new (sqO a)).new (sqO b)
    rwa [World.size_alloc] at h)
  have HPa := Lib.hid (fun s w => Parent_any s w)
  clear hM hT
  unfold sqv sqO at *
  go_enter Tryd.func5, Tryd.ntmps5
  go_wp2_with fail
  refine (awake_any _ (HM.out.below K2.out.bel) (HT.out.below K2.out.bel)).mono ?_
  rintro e x1 ⟨rfl, hb1⟩
  have K3 := Lib.hid (K2.out.step hb1)
  obtain ⟨a0, a1, a2⟩ := sq_cells (s := a) (K3.out.mem (w.heap.size, _) (List.mem_cons_of_mem _ List.mem_cons_self))
  clear hb1 K2
  go_wp2_with fail
  refine (HPa.out a _).mono ?_
  rintro e x2 ⟨rfl, hb2⟩
  have K4 := Lib.hid (K3.out.step hb2)
  clear hb2 K3 a0 a1 a2
  have hpc := parent_cases a
  generalize hpo : parentOut a = po at *
  obtain ⟨pc, pe⟩ := po
  dsimp only
  go_upto_if 39 with (fail)
  go_cut [] (fun wx => KB w [(w.heap.size + 1, sqO b), (w.heap.size, sqO a)] [] wx)
  case first =>
    rcases hpc with ⟨hok, h10, e⟩ | ⟨er, e, her⟩
    · injection e with e1 e2
      subst e1; subst e2
      simp only [beq_self_eq_true]
      have HOk := Lib.hid (And.intro hok h10)
      have HCh := Lib.hid (fun w => Children_any (parS a) w)
      rw [child_of_par hok h10] at HCh
      have K5 := Lib.hid (K4.out.new (sqO (parS a)))
      clear K4 hok h10 hpo
      unfold sqO sqv at *
      have HPk := Lib.hid (fun s (hs : s ∈ kidsS (parS a)) w => show Calls Tryd.prog 13 #[.agg #[.int .i64 s.l, .int .i64 s.x, .int .i64 s.y]] w fun e w' => e = .returned (.tuple #[.agg #[.int .i64 (parS a).l, .int .i64 (parS a).x, .int .i64 (parS a).y], .int .i64 0]) ∧ Below w.heap.size w w' from by
        have h := Parent_any s w
        rw [parent_of_kid HOk.out.1 HOk.out.2 hs] at h
        exact h)
      have HCn := Lib.hid (cnt_kids (par_kid a))
      have HKl := Lib.hid (show (kidsS (parS a)).length = 4 from rfl)
      generalize parS a = p at *
      go_wp2_with fail
      refine (HCh.out _).mono ?_
      rintro e x3 ⟨⟨A, c, rfl, hA⟩, hb3⟩
      dsimp only at hA ⊢
      have K6 := Lib.hid ((K5.out.step hb3).slice (v := .slice A (kidsS p).length c) (R := kidsS p) ⟨A, c, rfl, hA⟩)
      clear hA hb3 K5 HCh
      rw [HKl.out] at K6 ⊢
      generalize hg : x2.heap.size = g at *
      clear hg
      go_wp2_with fail
      go_loopw [14, 15] (fun n k wr => ∃ i : Nat, k = .int .i64 (i : Int) ∧ n = .int .i64 (cntS a ((kidsS p).take i) : Int) ∧ i ≤ 4 ∧ KB w [(g, sqO p), (w.heap.size + 1, sqO b), (w.heap.size, sqO a)] [(.slice A 4 c, kidsS p)] wr) (fun _ k _ => 4 - (intOf k).toNat)
      case atStart => exact ⟨0, rfl, rfl, by omega, K6.out⟩
      case round =>
        obtain ⟨i, rfl, rfl, hi, hK⟩ := hrel
        have HK := Lib.hid hK
        clear hK
        have hc4 : cntS a ((kidsS p).take i) ≤ 4 := by
          unfold cntS
          have h1 := List.length_filter_le (fun t => decide (t = a)) ((kidsS p).take i)
          rw [List.length_take] at h1
          omega
        by_cases hlt : i < 4
        · obtain ⟨A', c', e, hS⟩ := HK.out.sl _ List.mem_cons_self
          injection e with e1 e2 e3
          subst e1
          obtain ⟨s, ad, hs, hm, rfl, hb, h1, h2, h3⟩ := hS.at_ HKl.out hlt
          have HPs := Lib.hid (fun w => HPk.out s hm w)
          have HSi := Lib.hid hs
          have HCt := Lib.hid (cnt_take (a := a) hs)
          clear hs hm e2 e3 hS
          generalize cntS a ((kidsS p).take i) = n0 at *
          go_wp2_with fail
          refine (HPs.out _).mono ?_
          rintro e x4 ⟨rfl, hb4⟩
          have K7 := Lib.hid ((HK.out.step hb4).new (sqO p))
          unfold sqO at K7
          obtain ⟨p0, p1, p2⟩ := sq_cells (s := p) ((HK.out.step hb4).mem (g, _) List.mem_cons_self)
          have hgz : g < x4.heap.size := (HK.out.step hb4).lt List.mem_cons_self
          clear hb4
          go_wp2_with fail
          generalize x4.heap.size = g4 at *
          generalize x4.alloc (.cells #[.int .i64 p.l, .int .i64 p.x, .int .i64 p.y] 23) = X at *
          obtain ⟨A'', c'', e, hS⟩ := K7.out.sl _ List.mem_cons_self
          injection e with e1 e2 e3
          subst e1
          obtain ⟨s', ad', hs', hm', had, hb', h1, h2, h3⟩ := hS.at_ HKl.out hlt
          have es : s' = s := by have := HSi.out; rw [hs'] at this; injection this
          subst es
          injection had with had
          subst had
          obtain ⟨a0, a1, a2⟩ := sq_cells (s := a) (K7.out.mem (w.heap.size, _) (List.mem_cons_of_mem _ (List.mem_cons_of_mem _ (List.mem_cons_of_mem _ List.mem_cons_self))))
          have hz : w.heap.size < X.heap.size := K7.out.lt (List.mem_cons_of_mem _ (List.mem_cons_of_mem _ (List.mem_cons_of_mem _ List.mem_cons_self)))
          clear hs' hm' e2 e3 hS p0 p1 p2 hgz
          have K8 := Lib.hid (show KB w [(g, sqO p), (w.heap.size + 1, sqO b), (w.heap.size, sqO a)] [(.slice (some ad) 4 c, kidsS p)] X.drew from
            (show KB w [(g, sqO p), (w.heap.size + 1, sqO b), (w.heap.size, sqO a)] [(.slice (some ad) 4 c, kidsS p)] X from ⟨K7.out.bel, fun q hq => K7.out.mem q (List.mem_cons_of_mem _ hq), K7.out.sl⟩).step ((Below.refl _ _).drew))
          by_cases he : s' = a
          · have HCe := Lib.hid (show cntS a ((kidsS p).take (i + 1)) = n0 + 1 by rw [HCt.out, if_pos he])
            have hn0 : n0 + 1 ≤ 5 := by omega
            subst he
            go_region
            simp only [Exit.then]
            generalize X.drew = w3 at *
            go_wp2_with fail
            go_roundw
            case rel =>
              exact ⟨i + 1, by go_num, by rw [HCe.out]; go_num, by omega, K8.out⟩
            case measure => simp [intOf]; omega
          · have HCe := Lib.hid (show cntS a ((kidsS p).take (i + 1)) = n0 by rw [HCt.out, if_neg he]; rfl)
            obtain ⟨sl, sx, sy⟩ := s'
            obtain ⟨al, ax, ay⟩ := a
            dsimp only at *
            by_cases el : sl = al
            · subst el
              by_cases ex : sx = ax
              · subst ex
                have ey : ¬ sy = ay := fun h => he (by rw [h])
                clear he
                go_region
                simp only [Exit.then]
                generalize X.drew = w3 at *
                go_wp2_with fail
                go_roundw
                case rel => exact ⟨i + 1, by go_num, by rw [HCe.out], by omega, K8.out⟩
                case measure => simp [intOf]; omega
              · clear he
                go_region
                simp only [Exit.then]
                generalize X.drew = w3 at *
                go_wp2_with fail
                go_roundw
                case rel => exact ⟨i + 1, by go_num, by rw [HCe.out], by omega, K8.out⟩
                case measure => simp [intOf]; omega
            · clear he
              go_region
              simp only [Exit.then]
              generalize X.drew = w3 at *
              go_wp2_with fail
              go_roundw
              case rel => exact ⟨i + 1, by go_num, by rw [HCe.out], by omega, K8.out⟩
              case measure => simp [intOf]; omega
        · obtain rfl : i = 4 := by omega
          have HE := Lib.hid (show cntS a ((kidsS p).take 4) = 1 by rw [List.take_of_length_le (by rw [HKl.out]; omega)]; exact HCn.out)
          rw [HE.out]
          go_wp2_with fail
          go_meet
          exact ⟨HK.out.bel, fun q hq => HK.out.mem q (List.mem_cons_of_mem _ hq), fun q hq => (by cases hq)⟩
    · injection e with e1 e2
      subst e1; subst e2
      go_wp2_with fail
      go_meet
      exact K4.out.step (below_new _)
  case rest =>
    clear HPa K4 hpc hpo
    have K5 := Lib.hid hcut
    have HWi := Lib.hid (fun s t w => Within_any s t w)
    clear hcut
    unfold sqv sqO at *
    obtain ⟨a0, a1, a2⟩ := sq_cells (s := a) (K5.out.mem (w.heap.size, _) (List.mem_cons_of_mem _ List.mem_cons_self))
    obtain ⟨b0, b1, b2⟩ := sq_cells (s := b) (K5.out.mem (w.heap.size + 1, _) List.mem_cons_self)
    have hwc := within_cases a b
    generalize hg2 : x2.heap.size = g2
    clear hg2
    go_wp2_with fail
    refine (HWi.out a b _).mono ?_
    rintro e x3 ⟨rfl, hb3⟩
    have K6 := Lib.hid (K5.out.step hb3)
    clear hb3 K5 a0 a1 a2 b0 b1 b2
    obtain ⟨a0, a1, a2⟩ := sq_cells (s := a) (K6.out.mem (w.heap.size, _) (List.mem_cons_of_mem _ List.mem_cons_self))
    obtain ⟨b0, b1, b2⟩ := sq_cells (s := b) (K6.out.mem (w.heap.size + 1, _) List.mem_cons_self)
    generalize withinOut a b = wo at *
    obtain ⟨win, we⟩ := wo
    dsimp only
    go_wp2_with fail
    refine (HWi.out b a _).mono ?_
    rintro e x4 ⟨rfl, hb4⟩
    have K7 := Lib.hid (K6.out.step hb4)
    clear hb4 K6 a0 a1 a2 b0 b1 b2
    generalize withinOut b a = wp at *
    obtain ⟨won, wf⟩ := wp
    dsimp only
    go_upto_if 98 with (fail)
    go_cut [] (fun wx => KB w [(w.heap.size + 1, sqO b), (w.heap.size, sqO a)] [] wx)
    case first =>
      rcases hwc with ⟨oka, okb, e1, e2⟩ | ⟨e1, e2⟩
      · injection e1 with e3 e4
        injection e2 with e5 e6
        subst e3; subst e4; subst e5; subst e6
        simp only [beq_self_eq_true]
        have HIn := Lib.hid (fun u v X (hu : SqSl X X.heap.size u [a]) (hv : SqSl X X.heap.size v [b]) => Intersect_any u v [a] [b] X hu hv (by simp) (by simp))
        obtain ⟨f1, f2, f3⟩ := inter_one oka okb
        have hwb := within_both (a := a) (b := b)
        have K8 := Lib.hid ((K7.out.new (sqO a)).new (sqO b))
        rw [World.size_alloc] at K8
        have HO := Lib.hid (And.intro oka okb)
        clear oka okb
        generalize withinS a b = win at *
        generalize withinS b a = won at *
        generalize interOut [a] [b] = io at *
        obtain ⟨il, ie⟩ := io
        dsimp only at f1 f2 f3
        subst f1
        have HF := Lib.hid (And.intro f2 (And.intro f3 hwb))
        clear f2 f3 hwb
        obtain ⟨a0, a1, a2⟩ := sq_cells (s := a) (K7.out.mem (w.heap.size, _) (List.mem_cons_of_mem _ List.mem_cons_self))
        obtain ⟨b0, b1, b2⟩ := sq_cells (s := b) (K7.out.mem (w.heap.size + 1, _) List.mem_cons_self)
        have hz : w.heap.size + 1 < x4.heap.size := K7.out.lt List.mem_cons_self
        unfold sqO at K8
        go_wp2_with fail
        have hu := sl_one (s := a) (K8.out.mem (x4.heap.size, _) (List.mem_cons_of_mem _ List.mem_cons_self))
        have hv := sl_one (s := b) (K8.out.mem (x4.heap.size + 1, _) List.mem_cons_self)
        refine (HIn.out _ _ _ hu hv).mono ?_
        rintro e x5 ⟨⟨A, c, rfl, _⟩, hb5⟩
        dsimp only
        have K9 := Lib.hid (show KB w [(w.heap.size + 1, sqO b), (w.heap.size, sqO a)] [] x5 from
          ⟨(K8.out.step hb5).bel, fun q hq => (K8.out.step hb5).mem q (List.mem_cons_of_mem _ (List.mem_cons_of_mem _ hq)), fun q hq => (by cases hq)⟩)
        clear hb5 K8 hu hv a0 a1 a2 b0 b1 b2 hz
        obtain ⟨a0, a1, a2⟩ := sq_cells (s := a) (K9.out.mem (w.heap.size, _) (List.mem_cons_of_mem _ List.mem_cons_self))
        obtain ⟨b0, b1, b2⟩ := sq_cells (s := b) (K9.out.mem (w.heap.size + 1, _) List.mem_cons_self)
        generalize hn : il.length = n at *
        clear hn
        obtain ⟨hn2, hf, hwb⟩ := HF.out
        by_cases hab : a = b
        · subst hab
          simp at hwb
          obtain ⟨rfl, rfl⟩ := hwb
          have hn0 : 0 < n := by simpa using hf
          clear hf
          go_wp2_with fail
          go_meet
          exact K9.out
        · have hne : (win && won) = false := by rw [hwb]; simpa using hab
          clear hwb
          obtain ⟨al, ax, ay⟩ := a
          obtain ⟨bl, bx, bY⟩ := b
          dsimp only at *
          have h3 : al = bl → ax = bx → ¬ ay = bY := fun h1 h2 h3 => hab (by rw [h1, h2, h3])
          clear hab
          cases win <;> cases won
          · have hn0 : n = 0 := by
              have : ¬ 0 < n := by simpa using hf
              omega
            subst hn0
            clear hf hne
            by_cases el : al = bl
            · subst el
              by_cases ex : ax = bx
              · subst ex
                have ey := h3 rfl rfl
                clear h3
                go_wp2_with fail
                go_meet
                exact K9.out
              · clear h3
                go_wp2_with fail
                go_meet
                exact K9.out
            · clear h3
              go_wp2_with fail
              go_meet
              exact K9.out
          · have hn0 : 0 < n := by simpa using hf
            clear hf hne
            by_cases el : al = bl
            · subst el
              by_cases ex : ax = bx
              · subst ex
                have ey := h3 rfl rfl
                clear h3
                go_wp2_with fail
                go_meet
                exact K9.out
              · clear h3
                go_wp2_with fail
                go_meet
                exact K9.out
            · clear h3
              go_wp2_with fail
              go_meet
              exact K9.out
          · have hn0 : 0 < n := by simpa using hf
            clear hf hne
            by_cases el : al = bl
            · subst el
              by_cases ex : ax = bx
              · subst ex
                have ey := h3 rfl rfl
                clear h3
                go_wp2_with fail
                go_meet
                exact K9.out
              · clear h3
                go_wp2_with fail
                go_meet
                exact K9.out
            · clear h3
              go_wp2_with fail
              go_meet
              exact K9.out
          · cases hne
      · injection e1 with e3 e4
        subst e3; subst e4
        go_wp2_with fail
        go_meet
        exact K7.out
    case rest =>
      clear hwc K7 HWi
      have K8 := Lib.hid hcut
      have HBl := Lib.hid (fun s L w => Blur_any s L w)
      have HWi := Lib.hid (fun s t w => Within_any s t w)
      clear hcut
      unfold sqv sqO at *
      obtain ⟨a0, a1, a2⟩ := sq_cells (s := a) (K8.out.mem (w.heap.size, _) (List.mem_cons_of_mem _ List.mem_cons_self))
      have hbc := blur_cases a x
      go_wp2_with fail
      refine (HBl.out a x _).mono ?_
      rintro e x5 ⟨rfl, hb5⟩
      have K9 := Lib.hid ((K8.out.step hb5).new (sqO (blurOut a x).1))
      obtain ⟨a0, a1, a2⟩ := sq_cells (s := a) ((K8.out.step hb5).mem (w.heap.size, _) (List.mem_cons_of_mem _ List.mem_cons_self))
      have hz : w.heap.size < x5.heap.size := (K8.out.step hb5).lt (List.mem_cons_of_mem _ List.mem_cons_self)
      clear hb5 K8
      generalize blurOut a x = bo at *
      obtain ⟨c, h⟩ := bo
      unfold sqO at K9
      dsimp only at *
      go_wp2_with fail
      refine (HBl.out c y _).mono ?_
      rintro e x6 ⟨rfl, hb6⟩
      have KA := Lib.hid ((K9.out.step hb6).new (sqO (blurOut c y).1))
      clear a0 a1 a2 hz
      obtain ⟨a0, a1, a2⟩ := sq_cells (s := a) ((K9.out.step hb6).mem (w.heap.size, _) (List.mem_cons_of_mem _ (List.mem_cons_of_mem _ List.mem_cons_self)))
      have hz : w.heap.size < x6.heap.size := (K9.out.step hb6).lt (List.mem_cons_of_mem _ (List.mem_cons_of_mem _ List.mem_cons_self))
      clear hb6 K9
      have hby := blur_cases c y
      have hbm := blur_cases a (max x y)
      generalize blurOut c y = bo2 at *
      obtain ⟨d, i⟩ := bo2
      unfold sqO at KA
      dsimp only at *
      generalize x5.heap.size = g5 at *
      go_wp2_with fail
      refine (HBl.out a (max x y) _).mono ?_
      rintro e x7 ⟨rfl, hb7⟩
      have KC := Lib.hid ((KA.out.step hb7).new (sqO (blurOut a (max x y)).1))
      clear a0 a1 a2 hz hb7 KA
      generalize blurOut a (max x y) = bo3 at *
      obtain ⟨z, j⟩ := bo3
      unfold sqO at KC
      dsimp only at *
      generalize x6.heap.size = g6 at *
      rcases hbc with ⟨oka, h1, h2, e⟩ | ⟨er, e, her, _⟩
      · have hcw : withinOut a c = (true, 0) := by
          injection e with e1 e2
          subst e1
          unfold withinOut
          rw [oka, blur_ok' oka h1 h2, within_blur h1]; rfl
        have HFin := Lib.hid (show (i != 0) = true ∨ (i = 0 ∧ j = 0 ∧ d = z) from by
          injection e with e1 e2
          subst e1
          rcases hby with ⟨_, k1, k2, e3⟩ | ⟨er', e3, her', _⟩
          · right
            have k1' : x ≤ y := k1
            injection e3 with e4 e5
            rcases hbm with ⟨_, _, _, e6⟩ | ⟨_, _, _, hno⟩
            · injection e6 with e7 e8
              refine ⟨e5, e8, ?_⟩
              rw [e4, e7, show max x y = y by omega]
              exact blur_blur (ok_l oka).1 h1 k1'
            · exact absurd ⟨oka, by omega, by omega⟩ hno
          · injection e3 with e4 e5
            left; rw [e5]; exact her')
        have hcl : c.l = x := by injection e with e1 e2; rw [e1]; rfl
        have hh : h = 0 := by injection e with e1 e2
        subst hh
        have HWc := Lib.hid (fun w => show Calls Tryd.prog 17 #[.agg #[.int .i64 a.l, .int .i64 a.x, .int .i64 a.y], .agg #[.int .i64 c.l, .int .i64 c.x, .int .i64 c.y]] w fun e w' => e = .returned (.tuple #[.bool true, .int .i64 0]) ∧ Below w.heap.size w w' from by
          have h := HWi.out a c w
          rw [hcw] at h
          exact h)
        clear e hby hbm hcw oka h1 h2 HWi
        obtain ⟨cl, cx, cy⟩ := c
        dsimp only at *
        subst hcl
        have hm0 := KC.out.mem (w.heap.size, _) (List.mem_cons_of_mem _ (List.mem_cons_of_mem _ (List.mem_cons_of_mem _ (List.mem_cons_of_mem _ List.mem_cons_self))))
        have hm5 := KC.out.mem (g5, _) (List.mem_cons_of_mem _ (List.mem_cons_of_mem _ List.mem_cons_self))
        obtain ⟨a0, a1, a2⟩ := sq_cells (s := a) hm0
        obtain ⟨c0, c1, c2⟩ := sq_cells (s := ⟨cl, cx, cy⟩) hm5
        dsimp only at c0 c1 c2
        clear hm0 hm5
        go_wp2_with fail
        refine (HWc.out _).mono ?_
        rintro e x8 ⟨rfl, hb8⟩
        have KD := Lib.hid (KC.out.step hb8)
        clear hb8 KC a0 a1 a2 c0 c1 c2
        generalize x7.heap.size = g7 at *
        obtain ⟨c0, c1, c2⟩ := sq_cells (s := ⟨cl, cx, cy⟩) (KD.out.mem (g5, _) (List.mem_cons_of_mem _ (List.mem_cons_of_mem _ List.mem_cons_self)))
        obtain ⟨d0, d1, d2⟩ := sq_cells (s := d) (KD.out.mem (g6, _) (List.mem_cons_of_mem _ List.mem_cons_self))
        obtain ⟨z0, z1, z2⟩ := sq_cells (s := z) (KD.out.mem (g7, _) List.mem_cons_self)
        dsimp only at c0 c1 c2
        rcases HFin.out with hi | ⟨rfl, rfl, rfl⟩
        · go_wp2_with fail
          go_ret
          exact ⟨ret_b (by simp), KD.out.bel⟩
        · go_wp2_with fail
          go_ret
          exact ⟨ret_b (by simp), KD.out.bel⟩
      · injection e with e1 e2
        subst e1; subst e2
        go_wp2_with fail
        go_ret
        exact ⟨rfl, KC.out.bel⟩
end Go.Proofs.YtabolonlkocopaaDoor
