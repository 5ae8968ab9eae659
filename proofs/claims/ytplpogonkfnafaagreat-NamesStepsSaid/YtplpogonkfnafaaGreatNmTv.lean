
/- Turn, where all is well. -/
import Derived.Test.YtplpogonkfnafaaGreatNmTu
namespace Go.Proofs.YtplpogonkfnafaaGreat
open Go.RowKit Go.Nm

theorem wpList_make_rows {ops : Array Oper} {rest : List Oper} {o : Oper} {a : Act} {Q : Exit → Act → World → Prop} {w : World} (hg : o.guard = none) (l c : Operand) (hop : o.op = Op.makeSlice 28 l c) (n : Nat) (hl : a.eval l = .int .i64 (n : Int)) (hc : a.eval c = .int .i64 (n : Int)) (hn : n ≤ 100000)
    (hK : ∀ cs : Array Value, cs.size = n → (∀ k, k < n → cs[k]? = some (.slice none 0 0)) → wpList Tryz.prog ops Q rest (a.put o.dst (.slice (some ⟨w.heap.size, 0, none⟩) n n)) (w.alloc (.cells cs 22))) : wpList Tryz.prog ops Q (o :: rest) a w := by
  refine wpList_plain hg fun K hK' => ?_
  obtain ⟨i0, hi0, hz0, hz1, hz2⟩ := infoS
  have hrun := run_make (P := Tryz.prog) w 28 22 i0 (.slice none 0 0) Tryz.underlying28 hi0 hz0 .i64 .i64 (n : Int) (n : Int) (by omega) (Int.le_refl _) (by rw [hz2]; omega) (by omega)
  simp only [Int.toNat_natCast, hz1, Nat.mul_one] at hrun
  unfold Oper.wp
  simp [execOp, hop, hl, hc, hrun, Result.andThen]
  refine hK' _ _ (hK _ (size_madeCells _ _) fun k hk => ?_)
  simp [madeCells, hk, Value.cells, Nat.mod_one]
theorem MI.low {W W' X : World} {mb n : Nat} {f : Int → Int} (h : MI W' mb n f X) (hb : Below W.heap.size W W') : MI W mb n f X := by
  obtain ⟨h1, h2, h3, h4⟩ := h
  exact ⟨hb.trans (h1.mono hb.size), Nat.le_trans hb.size h2, h3, h4⟩
theorem TuI.start {W W3 X : World} {nt mb : Nat} {f : Int → Int} {cs : Array Value} (hW3 : W.alloc (.cells cs 22) = W3) (hs : cs.size = nt) (hc : ∀ k, k < nt → cs[k]? = some (.slice none 0 0)) (hm : MI W3 mb nt f X) (hb : Below W3.heap.size W3 X) :
    TuI W W.heap.size nt (fun _ => .slice none 0 0) (fun _ => []) mb nt f X := by
  have hb0 : Below W.heap.size W W3 := by rw [← hW3]; exact below_new _
  have hn : W3.heap[W.heap.size]? = some (.cells cs 22) := by rw [← hW3]; exact World.alloc_heap_new W _
  have hsz : W3.heap.size = W.heap.size + 1 := by rw [← hW3]; simp
  exact ⟨hm.low hb0, ⟨cs, (hb.block _ (Array.getElem?_eq_some_iff.1 hn).1).trans hn, hs, hc⟩, Nat.le_refl _, fun k _ => World.ownsRow_nil _ _ _ _, (fun j k _ _ _ g e => nomatch e), (fun k g _ e => nomatch e), by have := hm.new; omega⟩
theorem zip_at {a : List (List Int)} {fr : List Int} {i : Nat} {l : List Int} {x : Int} (h1 : a[i]? = some l) (h2 : fr[i]? = some x) : (a.zip fr)[i]? = some (l, x) := List.getElem?_zip_eq_some.2 ⟨h1, h2⟩
set_option maxRecDepth 100000 in
set_option maxHeartbeats 16000000 in
theorem Turn_good (va vf vt : Value) (a : List (List Int)) (fr to : List Int) (w : World) (hva : VsSl w w.heap.size va a) (hvf : InSl w w.heap.size vf fr) (hvt : InSl w w.heap.size vt to) (hF : Ver fr) (hT : Ver to) (hlen : a.length = fr.length) (hall : ∀ l ∈ a, Inc l ∧ (∀ z ∈ l, z ∈ to) ∧ l.length ≤ 1000) :
    Calls Tryz.prog 11 #[va, vf, vt] w (OutV (turnF a fr to) 0 w) := by
  have HS1 := Lib.hid (isSide_ver vf fr w hvf hF)
  have HS2 := Lib.hid (fun Y (h : Below w.heap.size w Y) => isSide_ver vt to Y (hvt.step h) hT)
  have HLt := Lib.hid (fun Y (h : Below w.heap.size w Y) => leadsTo_good va vt a to Y ((hva.below h).mono h.size) (hvt.step h) hT.2.2.1 hall (by have := hT.2.1; omega) (by have := hF.2.1; omega))
  have HPl := Lib.hid (fun Y (h : Below w.heap.size w Y) => placesOf_any vt to Y (hvt.step h) hT.2.2.1 hT.2.2.2 (by have := hT.2.1; omega))
  have HVa := Lib.hid hva
  obtain ⟨Aa, ca, rfl⟩ := hva.form
  obtain ⟨Af, cf, rfl, _⟩ := hvf.form
  obtain ⟨At, ct, rfl, _⟩ := hvt.form
  have HFi := Lib.hid (show InA w w.heap.size Af fr from by obtain ⟨_, _, e, _, _, h⟩ := hvf; cases e; exact h)
  have HAl := Lib.hid hall
  have HTi := Lib.hid hT.2.2.1
  have HTw := Lib.hid hT.2.2.2
  obtain ⟨na, hna⟩ : ∃ na, fr.length = na := ⟨_, rfl⟩
  have HNa := Lib.hid hna
  have HNa2 := Lib.hid (hlen.trans hna)
  have hna4 : na ≤ 400 := by have := hF.2.1; omega
  obtain ⟨nt, hnt⟩ : ∃ nt, to.length = nt := ⟨_, rfl⟩
  have HNt := Lib.hid hnt
  have hnt4 : nt ≤ 400 := by have := hT.2.1; omega
  rw [hlen, hna] at HVa HLt
  rw [hna] at HS1
  rw [hnt] at HS2 HLt HPl
  rw [hlen, hna, hnt]
  clear hva hvf hvt hF hT hall hlen hna hnt
  go_enter Tryz.func11, Tryz.ntmps11
  go_wp2_with fail
  (with_reducible refine HS1.out.mono ?_)
  rintro e w1 ⟨rfl, hb⟩
  have HB1 := Lib.hid hb
  have HS2a := Lib.hid (HS2.out w1 hb)
  clear hb HS1
  go_wp2_with fail
  (with_reducible refine HS2a.out.mono ?_)
  rintro e w2 ⟨rfl, hb⟩
  have HB2 := Lib.hid (HB1.out.trans (hb.mono HB1.out.size))
  have HLta := Lib.hid (HLt.out w2 HB2.out)
  clear hb HS2 HS2a
  go_wp2_with fail
  (with_reducible refine HLta.out.mono ?_)
  rintro e w3 ⟨rfl, hb⟩
  have HB3 := Lib.hid (HB2.out.trans (hb.mono HB2.out.size))
  clear hb HLt HLta
  go_wp2_with (refine wpList_make_rows rfl _ _ rfl nt rfl rfl (by omega) ?_; intro cs hcs1 hcs2)
  obtain ⟨W3, hW3⟩ : ∃ W3, w3.alloc (.cells cs 22) = W3 := ⟨_, rfl⟩
  have HB4 := Lib.hid (show Below w3.heap.size w3 W3 from by rw [← hW3]; exact below_new _)
  have HPa := Lib.hid (HPl.out W3 (HB3.out.trans (HB4.out.mono HB3.out.size)))
  rw [hW3]
  (with_reducible refine HPa.out.mono ?_)
  rintro e w5 ⟨mb, f, rfl, hpm, hb⟩
  have HTu := Lib.hid (TuI.start hW3 hcs1 hcs2 hpm.mi hb)
  have HPm := Lib.hid hpm.at_
  have HBz := Lib.hid (HB3.out.trans (HTu.out.bel.mono HB3.out.size))
  obtain ⟨go, hgo⟩ : ∃ go, w3.heap.size = go := ⟨_, rfl⟩
  rw [hgo] at HTu ⊢
  clear hpm hb hW3 hcs1 hcs2 HPl HPa hgo HB4
  obtain ⟨Z, hZ⟩ : ∃ Z, a.zip fr = Z := ⟨_, rfl⟩
  have HZ := Lib.hid hZ
  have HZl := Lib.hid (show Z.length ≤ 400 from by rw [← hZ, List.length_zip]; have := HNa.out; omega)
  clear hZ
  go_wp2_with fail
  go_loopw [43] (fun iv wr => ∃ (i : Nat) (vals : Nat → Value) (P : Nat → List Int), iv = .int .i64 (i : Int) ∧ i ≤ na ∧ TuI w3 go nt vals P mb nt f wr ∧ ∀ (k : Nat) (y : Int), to[k]? = some y → P k = tr y (Z.take i)) (fun iv _ => na - (intOf iv).toNat)
  case atStart => exact ⟨0, _, _, rfl, by omega, HTu.out, fun k y _ => by simp [tr]⟩
  case round =>
    obtain ⟨i, vals, P, rfl, hin, hT, hP⟩ := hrel
    have HTi1 := Lib.hid hT
    have HP1 := Lib.hid hP
    have HBr := Lib.hid (HB3.out.trans (hT.bel.mono HB3.out.size))
    clear hT hP
    by_cases hlt : i < na
    · obtain ⟨ada, ug, l, rfl, hbd, hl, hcg0, hgS⟩ := HVa.out.at_ hlt
      have hcg := (HBr.out.cell (p := ada.add i) (by rw [add_block]; exact hbd)).trans hcg0
      obtain ⟨hli, hls, hll⟩ := HAl.out l (List.mem_of_getElem? hl)
      obtain ⟨x, hx⟩ : ∃ x, fr[i]? = some x := ⟨_, List.getElem?_eq_getElem (by have := HNa.out; omega)⟩
      have HZi := Lib.hid (show Z[i]? = some (l, x) from by rw [← HZ.out]; exact zip_at hl hx)
      obtain ⟨Al, cl, rfl, _⟩ := hgS.form
      obtain ⟨adf, rfl, hbf, hcx⟩ := (HFi.out.below HBr.out) i x hx
      have HCx := Lib.hid (show ∀ Y, Below w.heap.size w Y → Y.cell? (adf.add i) = some (.int .i64 x) from fun Y hY => by
        obtain ⟨ad', e, _, h⟩ := (HFi.out.below hY) i x hx
        injection e with e
        subst e
        exact h)
      have HLs := Lib.hid (And.intro hli hls)
      have HLw := Lib.hid (fun Y (h : Below w.heap.size w Y) => show InA Y w.heap.size Al l from by obtain ⟨_, _, e, _, _, h2⟩ := hgS; cases e; exact h2.below h)
      obtain ⟨nl, hnl⟩ : ∃ nl, l.length = nl := ⟨_, rfl⟩
      have HNl := Lib.hid hnl
      rw [hnl] at hcg hll
      obtain ⟨Wr, rfl⟩ : ∃ Wr, Wr = wr := ⟨_, rfl⟩
      clear hbd hl hgS hcg0 hli hls hbf hcx hx hnl
      go_wp2_with fail
      go_loopw [50] (fun jv wq => ∃ (j : Nat) (vals : Nat → Value) (P : Nat → List Int), jv = .int .i64 (j : Int) ∧ j ≤ nl ∧ TuI w3 go nt vals P mb nt f wq ∧ ∀ (k : Nat) (y : Int), to[k]? = some y → P k = tr y (Z.take i) ++ (if y ∈ l.take j then [x] else [])) (fun jv _ => nl - (intOf jv).toNat)
      case atStart => exact ⟨0, vals, P, rfl, by omega, HTi1.out, fun k y hy => by rw [HP1.out k y hy]; simp⟩
      case round =>
        obtain ⟨j, vals, P, rfl, hjn, hT, hP⟩ := hrel
        have HTj := Lib.hid hT
        have HPj := Lib.hid hP
        have HBj := Lib.hid (HB3.out.trans (hT.bel.mono HB3.out.size))
        clear hT hP hcg
        by_cases hjt : j < nl
        · obtain ⟨z, adl, hz, rfl, _, hcz⟩ := (HLw.out wr HBj.out).at_ HNl.out hjt
          obtain ⟨k, hk⟩ := List.getElem?_of_mem (HLs.out.2 z (List.mem_of_getElem? hz))
          have hkt : k < nt := by have := (List.getElem?_eq_some_iff.1 hk).1; have := HNt.out; omega
          have HFz := Lib.hid (HPm.out k z hk)
          have HWz := Lib.hid (wf_nm (HTw.out z (List.mem_of_getElem? hk)))
          have HNx := Lib.hid (show ∀ (q : Nat) (y : Int), to[q]? = some y → updP P k (P k ++ [x]) q = tr y (Z.take i) ++ (if y ∈ l.take (j + 1) then [x] else []) from fun q y hy => by
            have htk : l.take (j + 1) = l.take j ++ [z] := by rw [List.take_add_one, hz]; rfl
            unfold updP
            by_cases e : q = k
            · subst e
              rw [hk] at hy
              injection hy with hy
              subst hy
              rw [if_pos rfl, HPj.out q z hk, htk]
              have hzn : z ∉ l.take j := fun hm => by
                obtain ⟨p, hp, e⟩ := List.getElem_of_mem hm
                rw [List.getElem_take] at e
                have h2 := (List.getElem?_eq_some_iff.1 hz)
                rw [List.length_take] at hp
                have := (List.pairwise_iff_getElem.1 HLs.out.1) p j (by omega) h2.1 (by omega)
                rw [e, h2.2] at this
                omega
              rw [if_neg hzn, if_pos (by simp), List.append_nil]
            · rw [if_neg e, HPj.out q y hy, htk]
              have hyz : y ≠ z := fun e2 => by
                subst e2
                have h1 := (List.getElem?_eq_some_iff.1 hy)
                have h2 := (List.getElem?_eq_some_iff.1 hk)
                rcases Nat.lt_or_gt_of_ne e with h | h
                · have := (List.pairwise_iff_getElem.1 HTi.out) q k h1.1 h2.1 h
                  rw [h1.2, h2.2] at this; omega
                · have := (List.pairwise_iff_getElem.1 HTi.out) k q h2.1 h1.1 h
                  rw [h1.2, h2.2] at this; omega
              simp [hyz])
          have HPl := Lib.hid (show (P k).length ≤ 1000 from by
            rw [HPj.out k z hk, List.length_append]
            have h1 := tr_len z (Z.take i)
            rw [List.length_take] at h1
            have := HZl.out
            split <;> simp <;> omega)
          clear hz hk
          go_wp2_with (first | (at_lookup; refine wpList_lookup_mi rfl _ _ rfl HTj.out.mi rfl z rfl HWz.out ?_; rw [HFz.out]))
          have hki : k < nt := hkt
          refine wp_opaque ?_
          intro t0 ht0
          have hsz0 : t0.size = 73 := by rw [ht0]; rfl
          have t1 : t0.getD 1 undef = .slice (some adf) na cf := by rw [ht0]; rfl
          have t8 : t0.getD 8 undef = .slice (some ⟨go, 0, none⟩) nt nt := by rw [ht0]; rfl
          have t10 : t0.getD 10 undef = .int .i64 (i : Int) := by rw [ht0]; rfl
          have t14 : t0.getD 14 undef = .int .i64 (k : Int) := by rw [ht0]; rfl
          have HT0 := Lib.hid ht0
          clear ht0
          refine wp_region_vals [some 57, some 58, some 59, some 60, some 61, some 62, some 63, some 64, some 65, some 66, some 67, some 68, some 69, none] (TgI wr.drew x (fun u X => TuI w3 go nt (updP vals k u) (updP P k (P k ++ [x])) mb nt f (X.setCell ⟨go, k, none⟩ u) ∧ X.cell? ⟨go, k, none⟩ = some (vals k) ∧ X.frozen? ⟨go, k, none⟩ = false ∧ ∃ A n c, u = .slice A n c) (fun X => ∃ u, TuI w3 go nt (updP vals k u) (updP P k (P k ++ [x])) mb nt f X) (.slice (some ⟨go, 0, none⟩) nt nt) (.int .i64 (k : Int)) (.pointer (some ((⟨go, 0, none⟩ : Addr).add k))) (vals k) (.slice (some adf) na cf) (.int .i64 (i : Int)) (.pointer (some (adf.add i)))) (by kernel_rfl) (by kernel_rfl) rfl rfl (by simp [hsz0]) (by kernel_rfl) ?_ ?_ ?_
          · intro val
            exact ⟨(fun h => nomatch h), (fun h => nomatch h), (fun h => nomatch h), (fun h => nomatch h), (fun h => nomatch h), (fun h => nomatch h), (fun h => nomatch h), (fun h => nomatch h), (fun h => nomatch h), (fun h => nomatch h), (fun h => nomatch h), fun _ => Below.refl _ _, (fun h => nomatch h), (fun h => nomatch h), (fun h => nomatch h)⟩
          · intro dn q o hi hd hp hc val X a' ha hn hI K hK
            have hq : q < 14 := by
              have := (Array.getElem?_eq_some_iff.1 hi).1
              simpa using this
            have c11 : dn 11 = true → dn 5 = true ∧ dn 10 = true := fun h => ⟨hc 11 _ rfl h ⟨5, .data⟩ (by simp) rfl, hc 11 _ rfl h ⟨10, .data⟩ (by simp) rfl⟩
            have c10 : dn 10 = true → dn 9 = true := fun h => hc 10 _ rfl h ⟨9, .data⟩ (by simp) rfl
            have c13 : dn 13 = true → dn 11 = true ∧ dn 12 = true := fun h => ⟨hc 13 _ rfl h ⟨11, .data⟩ (by simp) rfl, hc 13 _ rfl h ⟨12, .data⟩ (by simp) rfl⟩
            have bf : ∀ {q : Bool}, (q = true → False) → q = false := fun {q} h => by cases q; rfl; exact (h rfl).elim
            have hb3 : dn 11 = false → Below wr.heap.size wr X := fun n11 => (Below.refl _ _).drew.trans (hI.bel n11)
            rcases (show q = 0 ∨ q = 1 ∨ q = 2 ∨ q = 3 ∨ q = 4 ∨ q = 5 ∨ q = 6 ∨ q = 7 ∨ q = 8 ∨ q = 9 ∨ q = 10 ∨ q = 11 ∨ q = 12 ∨ q = 13 by omega) with rfl | rfl | rfl | rfl | rfl | rfl | rfl | rfl | rfl | rfl | rfl | rfl | rfl | rfl
            · obtain rfl := Option.some.inj hi
              exact opMove 8 _ rfl ((ha 8).trans t8) (hK _ _ hI.op0)
            · obtain rfl := Option.some.inj hi
              exact opMove 14 _ rfl ((ha 14).trans t14) (hK _ _ hI.op1)
            · obtain rfl := Option.some.inj hi
              exact opMove 8 _ rfl ((ha 8).trans t8) (hK _ _ hI.op2)
            · obtain rfl := Option.some.inj hi
              exact opMove 14 _ rfl ((ha 14).trans t14) (hK _ _ hI.op3)
            · obtain rfl := Option.some.inj hi
              have y2 := hp ⟨2, .data⟩ (by simp) rfl
              have y3 := hp ⟨3, .data⟩ (by simp) rfl
              exact opIxS 59 60 nt nt k ⟨go, 0, none⟩ rfl ((ha 59).trans (hI.s2 y2)) ((ha 60).trans (hI.s3 y3)) hki (hK _ _ hI.op4)
            · obtain rfl := Option.some.inj hi
              have y4 := hp ⟨4, .data⟩ (by simp) rfl
              have n11 : dn 11 = false := bf fun h => f_t hd (c11 h).1
              exact opLdS 61 _ _ rfl ((ha 61).trans (hI.s4 y4)) (by rw [add_zero_k]; exact (HTj.out.step (hb3 n11)).cell hki) (hK _ _ hI.op5)
            · obtain rfl := Option.some.inj hi
              exact opMove 1 _ rfl ((ha 1).trans t1) (hK _ _ hI.op6)
            · obtain rfl := Option.some.inj hi
              exact opMove 10 _ rfl ((ha 10).trans t10) (hK _ _ hI.op7)
            · obtain rfl := Option.some.inj hi
              have y6 := hp ⟨6, .data⟩ (by simp) rfl
              have y7 := hp ⟨7, .data⟩ (by simp) rfl
              exact opIx 63 64 na cf i adf rfl ((ha 63).trans (hI.s6 y6)) ((ha 64).trans (hI.s7 y7)) hlt (hK _ _ hI.op8)
            · obtain rfl := Option.some.inj hi
              have y8 := hp ⟨8, .data⟩ (by simp) rfl
              have n11 : dn 11 = false := bf fun h => f_t hd (c10 (c11 h).2)
              exact opLd 65 _ _ rfl ((ha 65).trans (hI.s8 y8)) (HCx.out X (HBj.out.trans ((hb3 n11).mono HBj.out.size))) (hK _ _ hI.op9)
            · obtain rfl := Option.some.inj hi
              have y9 := hp ⟨9, .data⟩ (by simp) rfl
              have n11 : dn 11 = false := bf fun h => f_t hd (c11 h).2
              exact opBox 66 x rfl ((ha 66).trans (hI.s9 y9)) (hK _ _ (hI.op10 n11 (bf fun h => f_t n11 (c13 h).1)))
            · obtain rfl := Option.some.inj hi
              have y5 := hp ⟨5, .data⟩ (by simp) rfl
              have y10 := hp ⟨10, .data⟩ (by simp) rfl
              obtain ⟨gb, hv1, hv2⟩ := hI.e10 y10 hd
              have hTX := HTj.out.step (hb3 hd)
              exact run_appN (.tmp 62) (.tmp 67) rfl (show OwN w3 (vals k) (P k) X from ⟨hTX.bel, hTX.own k hki⟩) ((ha 62).trans (hI.s5 y5)) ((ha 67).trans hv1) (box_sl hv2) (by have := HPl.out; simp only [List.length_singleton]; omega) (fun v' w' h1 h2 h3 => hK _ _ (hI.op11 (bf fun h => f_t hd (c13 h).1) (by
                have h4 := hTX.push hki (x := x) h1.own h2 h3
                obtain ⟨A7, c7, hv, _⟩ := h1.sl.form
                exact ⟨h4.1, h4.2.1, h4.2.2, A7, _, c7, hv⟩)))
            · obtain rfl := Option.some.inj hi
              have y0 := hp ⟨0, .data⟩ (by simp) rfl
              have y1 := hp ⟨1, .data⟩ (by simp) rfl
              exact opIxS 57 58 nt nt k ⟨go, 0, none⟩ rfl ((ha 57).trans (hI.s0 y0)) ((ha 58).trans (hI.s1 y1)) hki (hK _ _ hI.op12)
            · obtain rfl := Option.some.inj hi
              have y11 := hp ⟨11, .data⟩ (by simp) rfl
              have y12 := hp ⟨12, .data⟩ (by simp) rfl
              obtain ⟨h1, h2, h3, h4⟩ := hI.e11 y11 hd
              exact opStoreS 69 68 ⟨go, k, none⟩ (val 11) (vals k) rfl (((ha 69).trans (hI.s12 y12)).trans (by rw [add_zero_k])) (ha 68) h4 h2 h3 (fun u => hK u _ (hI.op13 y11 (u := u) ⟨_, h1⟩))
          · intro dn val X hdn hI
            obtain ⟨u', hu'⟩ := hI.e13 (hdn 13 (by simp))
            have HS5 := Lib.hid hu'
            clear hdn hI hu'
            simp only [wrS, HT0.out]
            simp only [List.setIfInBounds_toArray, List.set_cons_succ, List.set_cons_zero]
            simp only [Exit.inBlock, Exit.then]
            clear t1 t8 t10 t14 hsz0 HT0
            go_wp2_with fail
            go_roundw
            case rel => exact ⟨j + 1, _, _, by go_num, by omega, HS5.out, HNx.out⟩
            case measure => simp [intOf]; omega
        · have HE := Lib.hid (show l.take j = l from List.take_of_length_le (by have := HNl.out; omega))
          go_wp2_with fail
          go_roundw
          case rel => exact ⟨i + 1, vals, P, by go_num, by omega, HTj.out, fun k y hy => by rw [HPj.out k y hy, HE.out, tr_next HZi.out]⟩
          case measure => simp [intOf]; omega
    · have HE := Lib.hid (show (List.range nt).map P = turnF a fr to from by
        unfold turnF
        rw [HZ.out]
        refine List.ext_getElem? fun k => ?_
        rw [List.getElem?_map, List.getElem?_map]
        by_cases hk : k < nt
        · obtain ⟨y, hy⟩ : ∃ y, to[k]? = some y := ⟨_, List.getElem?_eq_getElem (by have := HNt.out; omega)⟩
          rw [List.getElem?_range hk, hy, Option.map_some, Option.map_some, HP1.out k y hy, List.take_of_length_le (by rw [← HZ.out, List.length_zip]; have := HNa2.out; omega)]
        · rw [List.getElem?_eq_none (by simp; omega), List.getElem?_eq_none (by have := HNt.out; omega)]; rfl)
      go_wp2_with fail
      go_ret2
      exact ⟨⟨_, rfl, by rw [← HE.out]; exact HTi1.out.sl⟩, HBr.out⟩
end Go.Proofs.YtplpogonkfnafaaGreat
