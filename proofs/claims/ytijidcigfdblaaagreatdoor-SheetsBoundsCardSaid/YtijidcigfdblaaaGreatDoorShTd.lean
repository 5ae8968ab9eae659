/- Print: the program. -/
import Derived.Test.YtijidcigfdblaaaGreatDoorShTb
namespace Go.Sh
open Go.Plc Go.Nm
theorem lnsT_next {l : List Ln} {i : Nat} {x : Ln} (h : l[i]? = some x) : lnsT (l.take (i + 1)) = lnsT (l.take i) ++ lineT lnW (lnN x) := by
  unfold lnsT
  rw [show l.take (i + 1) = l.take i ++ [x] from by rw [List.take_add_one, h]; rfl, List.flatMap_append]
  simp
theorem i64_small {n : Int} (h0 : 0 ≤ n) (h1 : n ≤ 1000000) : i64B n := ⟨by omega, by omega⟩
theorem bet_rng {n a b : Int} (h : betB n a b = true) : a ≤ n ∧ n ≤ b := by
  unfold betB at h
  simp only [Bool.and_eq_true, decide_eq_true_eq] at h
  exact h
theorem set_rng {l : List Int} (h : setB l = true) : (∀ x ∈ l, 1 ≤ x ∧ x ≤ 65535) ∧ l.length ≤ 64 := by
  unfold setB at h
  simp only [Bool.and_eq_true, List.all_eq_true, decide_eq_true_eq] at h
  exact ⟨fun x hx => bet_rng (h.1 x hx), h.2⟩
theorem ln_parts {x : Ln} (h : lnB x = true) : idB x.nm = true ∧ cntB x.lo x.hi = true ∧ setB x.sn = true := by
  unfold lnB at h
  rw [Bool.and_eq_true, Bool.and_eq_true] at h
  exact ⟨h.1.1, h.1.2, h.2⟩
theorem ln_i64 {x : Ln} (h : lnB x = true) : (∀ n ∈ lnN x, i64B n) ∧ (lnN x).length ≤ 67 := by
  obtain ⟨h1, h2, h3⟩ := ln_parts h
  have a := bet_rng h1
  have b := cnt_rng h2
  obtain ⟨c, d⟩ := set_rng h3
  refine ⟨fun n hn => ?_, by unfold lnN; simp; omega⟩
  unfold lnN at hn
  rcases List.mem_cons.1 hn with rfl | hn
  · exact i64_small (by omega) (by omega)
  rcases List.mem_cons.1 hn with rfl | hn
  · exact i64_small (by omega) (by omega)
  rcases List.mem_cons.1 hn with rfl | hn
  · exact i64_small (by omega) (by omega)
  · have := c n hn
    exact i64_small (by omega) (by omega)
theorem sq_rng {s : Sq} (h : Sq.okB s = true) : 0 ≤ s.x ∧ s.x ≤ 1024 ∧ 0 ≤ s.y ∧ s.y ≤ 1024 ∧ 0 ≤ s.l := by
  obtain ⟨a, b, c, d, e, f⟩ := (Sq.okB_iff s).1 h
  have := side_le s.l a
  omega
theorem pg_i64 {p : Pg} (h : PgOk p) : ∀ n ∈ hdN p, i64B n := by
  have h1 := h.hd
  have h2 := h.sq
  unfold hdB at h1
  unfold sqB at h2
  rw [Bool.and_eq_true, Bool.and_eq_true] at h1
  rw [Bool.and_eq_true] at h2
  have a := bet_rng h1.1.1
  have b := bet_rng h1.1.2
  have c := bet_rng h1.2
  have d := sq_rng h2.2
  simp only at d
  have e := bet_rng h.nt
  have f := cnt_rng h.cn
  intro n hn
  unfold hdN at hn
  simp only [List.mem_cons, List.not_mem_nil, or_false] at hn
  rcases hn with rfl | rfl | rfl | rfl | rfl | rfl | rfl | rfl <;> exact i64_small (by omega) (by omega)
end Go.Sh
namespace Go.Proofs.YtijidcigfdblaaaGreatDoor
open Go.RowKit Go.Nm Go.Sh Go.Plc

theorem lineT_len {word : List UInt8} {ns : List Int} (h : ∀ n ∈ ns, i64B n) : (lineT word ns).length ≤ word.length + 22 * ns.length + 1 := by
  have h2 := numT_len h ns.length
  rw [List.take_length] at h2
  unfold lineT
  rw [List.length_append, List.length_append, List.length_singleton]
  omega
theorem lnsT_len {l : List Ln} (h : ∀ x ∈ l, lnB x = true) : ∀ i, (lnsT (l.take i)).length ≤ 1500 * i
  | 0 => by simp [lnsT]
  | i + 1 => by
    have ih := lnsT_len h i
    cases hx : l[i]? with
    | none =>
      rw [List.take_of_length_le (by have := List.getElem?_eq_none_iff.1 hx; omega)]
      rw [List.take_of_length_le (by have := List.getElem?_eq_none_iff.1 hx; omega)] at ih
      omega
    | some x =>
      obtain ⟨h1, h2⟩ := ln_i64 (h x (List.mem_of_getElem? hx))
      have h3 := lineT_len (word := lnW) h1
      have h4 : lnW.length = 4 := rfl
      rw [lnsT_next hx, List.length_append]
      omega
theorem OwN.lit3 (W : World) (a b c : Int) : OwN W (.slice (some ⟨W.heap.size, 0, none⟩) 3 3) [a, b, c] (W.alloc (.cells #[.int .i64 a, .int .i64 b, .int .i64 c] 3)) :=
  ⟨below_new _, World.ownsRow_lit (size := 1) W #[.int .i64 a, .int .i64 b, .int .i64 c] 3 (Nat.le_refl _) (by unfold maxLen; omega) rfl⟩
theorem NsI.of_own {X : World} {B : Nat} {v : Value} {L : List Int} (h : X.ownsRow B 3 1 v L.length (intsV L)) : NsI X v L := by
  rcases h.2 with ⟨e, h0⟩ | ⟨g, cap, cur, e, hb, hg, h1, h2, h3, h4⟩
  · exact .inl ⟨e, List.length_eq_zero_iff.1 h0⟩
  · refine .inr ⟨g, cap, cur, _, e, hg, fun i x hx => ?_⟩
    have hc := h.cells (g := g) (by rw [e]; rfl) i (.int .i64 x) (by unfold intsV; rw [List.getElem?_map, hx]; rfl)
    rw [add_zeroB] at hc
    simpa [World.cell?, hg] using hc
theorem lit_ns (w : World) (p : Pg) : NsI (w.alloc (.cells #[.int .i64 p.ob, .int .i64 p.yr, .int .i64 p.sx, .int .i64 p.sy, .int .i64 p.nt, .int .i64 p.lm, .int .i64 p.lo, .int .i64 p.hi] 3)) (.slice (some ⟨w.heap.size, 0, none⟩) 8 8) (hdN p) :=
  NsI.of_own (B := 0) (World.ownsRow_lit (size := 1) w _ 8 (Nat.zero_le _) (by unfold maxLen; omega) rfl)
theorem ByI.base {B : Nat} {w0 w1 X : World} {v : Value} {l : List UInt8} (h : ByI B w1 v l X) (hb : Below w0.heap.size w0 w1) (hB : B ≤ w0.heap.size) : ByI B w0 v l X :=
  ⟨h.own, (hb.mono hB).trans h.bel, ((Lib.OthersKept.refl _ _ _).below hb).trans h.oth⟩
theorem ByI.next {B : Nat} {w0 w1 X : World} {v u : Value} {l m : List UInt8} (h : ByI B w0 u m w1) (k : ByI B w1 v l X) : ByI B w0 v l X :=
  ⟨k.own, h.bel.trans k.bel, h.oth.trans k.oth⟩
set_option maxRecDepth 100000 in
set_option maxHeartbeats 16000000 in
theorem Print_any (v : Value) (p : Pg) (w : World) (hv : PgV w v p) (hp : PgSm p) (hG : GlO w) : Calls Tryz.prog 29 #[v] w fun e w' => e = .returned (.tuple #[str (prtT p), .int .i64 (prtE p)]) ∧ Below w.heap.size w w' := by
  have hv0 := hv
  obtain ⟨A, c, W0, rfl, hW0, hb0, hz, hV, hL, hC⟩ := pg_box hv
  have hl0 : LnSl w w.heap.size (.slice A p.ls.length c) p.ls := by
    obtain ⟨vl, e, h⟩ := hv0
    have e2 : Value.slice A p.ls.length c = vl := by unfold pgV at e; simpa using e
    rw [e2]; exact h
  have HL0 := Lib.hid hl0
  have hbox : W0.heap[w.heap.size]? = some (.cells (pgC p (.slice A p.ls.length c)) 28) := by rw [← hW0]; exact World.alloc_heap_new w _
  have HW0 := Lib.hid hW0
  have HB0 := Lib.hid hb0
  have HBx := Lib.hid hbox
  have HF0 := Lib.hid (isValid_any _ p W0 (hV W0 (Below.refl _ _)) hp)
  have HT := Lib.hid (Lib.tabBelow_of_tabIs hG.tab)
  obtain ⟨pt, hpt⟩ : ∃ x, prtT p = x := ⟨_, rfl⟩
  obtain ⟨pe, hpe⟩ : ∃ x, prtE p = x := ⟨_, rfl⟩
  have HPe := Lib.hid (show pe = if okP p = true then (if 65536 < (textF p).length then 2 else 0) else 40 from hpe.symm)
  have HPt := Lib.hid (show pt = if pe = 0 then textF p else [] from by rw [← hpt, ← hpe]; rfl)
  rw [hpt, hpe]
  have HOk := Lib.hid (fun h : okP p = true => ok_iff.1 h)
  obtain ⟨ok, hok⟩ : ∃ x, okP p = x := ⟨_, rfl⟩
  rw [hok] at HF0 HPe HOk
  obtain ⟨g0, g1, g2, g3, g4, g5, g6, g7, g8, g9⟩ := hC W0 (Below.refl _ _)
  have HC := Lib.hid hC
  obtain ⟨n, hn⟩ : ∃ n, p.ls.length = n := ⟨_, rfl⟩
  have HNl := Lib.hid hn
  rw [hn] at HF0 HW0 HC HL0 HBx g9 ⊢
  unfold pgV at HF0 ⊢
  unfold pgC at HW0
  clear hv hv0 hp hW0 hb0 hz hV hL hC hpt hpe hok hl0 hbox hG hn
  go_enter Tryz.func29, Tryz.ntmps29
  go_wp2_with fail
  rw [HW0.out]
  (try go_wp2_with fail)
  (with_reducible refine HF0.out.mono ?_)
  rintro e w1 ⟨rfl, hb⟩
  have HB1 := Lib.hid (HB0.out.trans (hb.mono HB0.out.size))
  have HBx1 := Lib.hid ((hb.block _ (Array.getElem?_eq_some_iff.1 HBx.out).1).trans HBx.out)
  have HC1 := Lib.hid (HC.out w1 hb)
  clear hb HF0 g0 g1 g2 g3 g4 g5 g6 g7 g8 g9
  cases ok with
  | false =>
    have HF := Lib.hid (show pe = 40 from by rw [HPe.out]; rfl)
    have HF2 := Lib.hid (show pt = [] from by rw [HPt.out, HF.out]; rfl)
    go_wp2_with fail
    go_ret2
    exact ⟨by rw [HF.out, HF2.out]; rfl, HB1.out⟩
  | true =>
    have hOk := HOk.out rfl
    have hn2 : n ≤ 200 := by have := hOk.len; rw [HNl.out] at this; exact this
    have HLb := Lib.hid hOk.ln
    have HLn := Lib.hid (lnsT_len hOk.ln)
    have hw1 : w.heap.size ≤ w1.heap.size := HB1.out.size
    have HW1 := Lib.hid hw1
    have HWr := Lib.hid (writeLine_any w.heap.size (.slice none 0 0) (.slice (some ⟨w1.heap.size, 0, none⟩) 8 8) [] hdW (hdN p) (w1.alloc (.cells #[.int .i64 p.ob, .int .i64 p.yr, .int .i64 p.sx, .int .i64 p.sy, .int .i64 p.nt, .int .i64 p.lm, .int .i64 p.lo, .int .i64 p.hi] 3)) (World.ownsRow_nil _ _ _ _) (by simp; omega) (HT.out.on (HB1.out.trans ((below_new _).mono hw1))) (lit_ns w1 p) (pg_i64 hOk) (by simp) (by decide) (by simp [hdN]))
    have HHd := Lib.hid (show (lineT hdW (hdN p)).length ≤ 200 from by have := lineT_len (word := hdW) (pg_i64 hOk); have h5 : hdW.length = 5 := rfl; simp [hdN] at this ⊢; omega)
    have HTf := Lib.hid (show textF p = lineT hdW (hdN p) ++ lnsT p.ls ++ lineT enW [] from rfl)
    have HKb := Lib.hid (show ∀ X u l, ByI w.heap.size w1 u l X → PgC X w.heap.size p (.slice A n c) ∧ Below w.heap.size w X from fun X u l h => ⟨pg_cells (h.oth _ _ HBx1.out (by simp) (fun _ _ e => by cases e)), HB1.out.trans h.bel⟩)
    obtain ⟨hd, hhd⟩ : ∃ x, lineT hdW (hdN p) = x := ⟨_, rfl⟩
    rw [hhd] at HWr HHd HTf
    obtain ⟨g0, g1, g2, g3, g4, g5, g6, g7, g8, g9⟩ := HC1.out
    clear hOk hhd HOk HC
    go_wp2_with fail
    refine HWr.out.mono ?_
    rintro e w2 ⟨v2, rfl, h2⟩
    have H2 := Lib.hid (show ByI w.heap.size w1 v2 hd w2 from h2.base (below_new _) hw1)
    clear h2 HWr g0 g1 g2 g3 g4 g5 g6 g7 g8 g9
    obtain ⟨_, _, _, _, _, _, _, _, _, g9⟩ := (HKb.out _ _ _ H2.out).1
    go_wp2_with fail
    go_loopw [4, 36] (fun tv iv wr => ∃ i : Nat, iv = .int .i64 (i : Int) ∧ i ≤ n ∧ ByI w.heap.size w1 tv (hd ++ lnsT (p.ls.take i)) wr) (fun _ iv _ => n - (intOf iv).toNat)
    case atStart => exact ⟨0, rfl, by omega, by rw [show lnsT (p.ls.take 0) = [] from rfl, List.append_nil]; exact H2.out⟩
    case round =>
      obtain ⟨i, rfl, hin, hb⟩ := hrel
      have HB := Lib.hid hb
      obtain ⟨hpc, hbw⟩ := HKb.out _ _ _ hb
      have HBw := Lib.hid hbw
      have HLl := Lib.hid (show (hd ++ lnsT (p.ls.take i)).length ≤ 300200 from by rw [List.length_append]; have := HLn.out i; have := HHd.out; omega)
      by_cases hlt : i < n
      · obtain ⟨x, ad, As, cs, hx, rfl, hY⟩ := HL0.out.at_ hlt
        obtain ⟨⟨l0, l1, l2, l3⟩, hsn⟩ := hY wr hbw
        obtain ⟨hxi, hxl⟩ := ln_i64 (HLb.out x (List.mem_of_getElem? hx))
        have hbn := below_new (w := wr) (.cells #[.int .i64 x.nm, .int .i64 x.lo, .int .i64 x.hi, .slice As x.sn.length cs] 83)
        have hnn := World.alloc_heap_new wr (.cells #[.int .i64 x.nm, .int .i64 x.lo, .int .i64 x.hi, .slice As x.sn.length cs] 83)
        obtain ⟨V, hV⟩ : ∃ V, wr.alloc (.cells #[.int .i64 x.nm, .int .i64 x.lo, .int .i64 x.hi, .slice As x.sn.length cs] 83) = V := ⟨_, rfl⟩
        have hVz : V.heap.size = wr.heap.size + 1 := by rw [← hV]; simp
        rw [hV] at hbn hnn
        have hlit := OwN.lit3 V x.nm x.lo x.hi
        have hln2 := (hlit.bel.block _ (by rw [hVz]; omega)).trans hnn
        obtain ⟨m0, m1, m2, m3⟩ := cells_four hnn
        obtain ⟨_, _, _, n3⟩ := cells_four hln2
        have HMl := Lib.hid ((hsn.step hbn).step hlit.bel)
        have HL3 := Lib.hid hlit
        have HBV := Lib.hid hbn
        have HX := Lib.hid (lnsT_next hx)
        have HXi := Lib.hid hxi
        have HLx := Lib.hid (show lnN x = [x.nm, x.lo, x.hi] ++ x.sn from rfl)
        have HLe := Lib.hid (show ([x.nm, x.lo, x.hi] : List Int).length + x.sn.length ≤ 3000000 from by unfold lnN at hxl; simp at hxl ⊢; omega)
        have HXl := Lib.hid hxl
        obtain ⟨b, hbl⟩ : ∃ b, hd ++ lnsT (p.ls.take i) = b := ⟨_, rfl⟩
        rw [hbl] at HB HLl
        have HBl := Lib.hid hbl
        clear hx hY hsn hxi hxl hbn hnn hlit hln2 hb hpc hbw hbl g9 hVz
        go_wp2_with (at_builtin; refine wpList_appN rfl _ _ rfl HL3.out rfl rfl HMl.out HLe.out ?_; intro v6 w6 hI6 _; refine Hid.out ?_)
        refine Lib.hid ?_
        rw [← HLx.out] at hI6
        have hb6 := HBV.out.trans (hI6.bel.mono HBV.out.size)
        have HB6 := Lib.hid (HB.out.step HW1.out hb6)
        have HWl := Lib.hid (writeLine_any w.heap.size u4 v6 b lnW (lnN x) w6 HB6.out.own (Nat.le_trans HW1.out HB6.out.bel.size) (HT.out.on (HB1.out.trans HB6.out.bel)) (NsI.of_own hI6.own) HXi.out (by have := HLl.out; omega) (by decide) (by have := HXl.out; omega))
        clear hI6 hb6 m0 m1 m2 m3 n3 l0 l1 l2 l3
        go_wp2_with fail
        refine HWl.out.mono ?_
        rintro e w7 ⟨v7, rfl, h7⟩
        have H7 := Lib.hid (show ByI w.heap.size w1 v7 (hd ++ lnsT (p.ls.take (i + 1))) w7 from by
          rw [HX.out, ← List.append_assoc, HBl.out]; exact HB6.out.next h7)
        clear h7 HWl
        go_wp2_with fail
        go_roundw
        case rel => exact ⟨i + 1, by go_num, by omega, H7.out⟩
        case measure => simp [intOf]; omega
      · obtain rfl : n = i := by omega
        have HWl := Lib.hid (writeLine_any w.heap.size u4 (.slice none 0 0) _ enW [] wr HB.out.own (Nat.le_trans HW1.out HB.out.bel.size) (HT.out.on (HB1.out.trans HB.out.bel)) (.inl ⟨rfl, rfl⟩) (fun n h => by cases h) (by have := HLl.out; omega) (by decide) (by simp))
        have HTf2 := Lib.hid (show hd ++ lnsT (p.ls.take n) ++ lineT enW [] = textF p from by rw [HTf.out, List.take_of_length_le (by rw [HNl.out]; exact Nat.le_refl _)])
        clear hb hpc hbw g9
        go_wp2_with fail
        refine HWl.out.mono ?_
        rintro e w7 ⟨v7, rfl, h7⟩
        rw [HTf2.out] at h7
        have hpos : 0 < (textF p).length := by rw [HTf.out]; simp [lineT, enW]; omega
        have H7 := Lib.hid (HB.out.next h7)
        clear h7 HWl HTf HTf2
        obtain ⟨tx, htx⟩ : ∃ x, textF p = x := ⟨_, rfl⟩
        rw [htx] at HPe HPt H7 hpos
        rcases H7.out.own.2 with ⟨-, h0⟩ | ⟨g, cap, cur, rfl, -, -, -, -, -, -⟩
        · omega
        · have hcv := run_convert_bytes_back (P := Tryz.prog) w7 123 9 5 ⟨g, 0, none⟩ cap tx Tryz.underlying123 Tryz.underlying5 Tryz.underlying9 (fun j hj => H7.out.own.cells (g := g) rfl j _ (by simp [Lib.byteCells, hj]))
          have HBe := Lib.hid (HB1.out.trans H7.out.bel)
          clear htx
          by_cases h65 : 65536 < tx.length
          · have HF := Lib.hid (show pe = 2 from by rw [HPe.out]; simp [h65])
            have HF2 := Lib.hid (show pt = [] from by rw [HPt.out, HF.out]; rfl)
            have h65i : (65536 : Int) < (tx.length : Int) := by omega
            clear H7 h65
            go_wp2_with fail
            go_ret2
            exact ⟨by rw [HF.out, HF2.out]; rfl, HBe.out⟩
          · have HF := Lib.hid (show pe = 0 from by rw [HPe.out]; simp [h65])
            have HF2 := Lib.hid (show pt = tx from by rw [HPt.out, HF.out]; rfl)
            have h65i : ¬ (65536 : Int) < (tx.length : Int) := by omega
            clear H7 h65
            go_wp2_with fail
            go_ret2
            exact ⟨by rw [HF.out, HF2.out]; rfl, HBe.out⟩
end Go.Proofs.YtijidcigfdblaaaGreatDoor
