/- The reference: its fates. -/
import Derived.Test.YtplpogonkfnafaaNmFi
namespace Go.Proofs.Ytplpogonkfnafaa
open Go.RowKit Go.Nm

theorem map_one {l : List Int} {i : Nat} {x : Int} (h : l[i]? = some x) : (l.take (i + 1)).map (fun y => [y]) = (l.take i).map (fun y => [y]) ++ [[x]] := by
  rw [show l.take (i + 1) = l.take i ++ [x] from by rw [List.take_add_one, h]; rfl, List.map_append]; rfl
theorem heap_new2 (w : World) (o1 o2 : Obj) : ((w.alloc o1).alloc o2).heap[w.heap.size + 1]? = some o2 := two_new w o1 o2
set_option maxRecDepth 100000 in
set_option maxHeartbeats 16000000 in
theorem rfates_any (v vc : Value) (b : Bk) (w : World) (hv : BkV w v b vc) (hs : Sm b) (hval : Val b) :
    Calls Try.prog 71 #[v] w fun e w' => (∃ u, e = .returned (.tuple #[u, .bool (!rich b)]) ∧ VsSl w' w'.heap.size u (if rich b then [] else allF b)) ∧ Below w.heap.size w w' := by
  obtain ⟨A1, c1, A2, c2, W0, rfl, rfl, hW0, hb0, hB0, hx⟩ := bk_box hv
  have HB0 := Lib.hid hb0
  have HX := Lib.hid hx
  have HW0 := Lib.hid hW0
  have HS := Lib.hid hs
  have HF := Lib.hid (show InSl W0 W0.heap.size (.slice A1 b.first.length c1) b.first from by obtain ⟨_, e, h1, h2⟩ := hB0; simp only [Value.agg.injEq, Array.mk.injEq, List.cons.injEq, and_true] at e; rw [e]; exact h1)
  have HCh := Lib.hid (show ChSl W0 W0.heap.size (.slice A2 b.chs.length c2) b.chs from by obtain ⟨_, e, h1, h2⟩ := hB0; exact h2)
  have HVal := Lib.hid hval
  have HFv := Lib.hid (val_ver hval)
  have HRi := Lib.hid (rich_lev hval)
  obtain ⟨RB, hRB⟩ : ∃ r, (!rich b) = r := ⟨_, rfl⟩
  obtain ⟨RL, hRL⟩ : ∃ r, (if rich b then [] else allF b) = r := ⟨_, rfl⟩
  have HRB := Lib.hid hRB
  have HRL := Lib.hid hRL
  rw [hRB, hRL]
  clear hRB hRL
  obtain ⟨nf, hnf⟩ : ∃ nf, b.first.length = nf := ⟨_, rfl⟩
  have HNf := Lib.hid hnf
  obtain ⟨len, hlen⟩ : ∃ len, b.chs.length = len := ⟨_, rfl⟩
  have HLn := Lib.hid hlen
  have hl64 : len ≤ 64 := by have := hval.1; omega
  have hnf4 : nf ≤ 400 := by have := HFv.out.2.1; omega
  rw [hnf, hlen] at HX HW0 ⊢
  rw [hnf] at HF
  rw [hlen] at HCh
  clear hb0 hx hW0 hs hv hB0 hval hnf hlen
  obtain ⟨k0, k1⟩ := HX.out W0 (Below.refl _ _)
  go_enter Try.func71, Try.ntmps71
  go_wp2_with fail
  rw [HW0.out]
  go_wp2_with fail
  go_loopw [4, 5] (fun ov iv wr => ∃ (i : Nat) (vals : List Value), iv = .int .i64 (i : Int) ∧ i ≤ nf ∧ SlI W0 ((b.first.take i).map fun y => [y]) vals ov wr) (fun _ iv _ => nf - (intOf iv).toNat)
  case atStart => exact ⟨0, [], rfl, by omega, SlI.start _⟩
  case round =>
    obtain ⟨i, vals, rfl, hin, hS⟩ := hrel
    have HSl := Lib.hid hS
    clear k0 k1 hS
    obtain ⟨k0, k1⟩ := HX.out wr HSl.out.bel
    by_cases hlt : i < nf
    · obtain ⟨x, ad, hx, rfl, hbd, hcx⟩ := ((show InA W0 W0.heap.size A1 b.first from by obtain ⟨_, _, e, _, _, h⟩ := HF.out; cases e; exact h).below HSl.out.bel).at_ HNf.out hlt
      have HM := Lib.hid (map_one hx)
      have hb2 : Below wr.heap.size wr ((wr.alloc (.cells #[.int .i64 x] 3)).alloc (.cells #[.slice (some ⟨wr.heap.size, 0, none⟩) 1 1] 22)) := (below_new _).trans ((below_new _).mono (by simp))
      have HS2 := Lib.hid (HSl.out.step hb2)
      have HO1 := Lib.hid ((one_sl wr x).step (below_new (.cells #[.slice (some ⟨wr.heap.size, 0, none⟩) 1 1] 22)))
      have HO2 := Lib.hid (show ∀ g, (Value.slice (some ⟨wr.heap.size, 0, none⟩) 1 1).ownBlock = some g → u4.ownBlock ≠ some g ∧ g < ((wr.alloc (.cells #[.int .i64 x] 3)).alloc (.cells #[.slice (some ⟨wr.heap.size, 0, none⟩) 1 1] 22)).heap.size from fun g e => by
        have e2 : g = wr.heap.size := by rw [own_slice] at e; injection e with e; exact e.symm
        subst e2
        exact ⟨fun e => by have := (HSl.out.lt e).2; omega, by simp; omega⟩)
      have hln : ((b.first.take i).map fun y => [y]).length ≤ 100000 := by rw [List.length_map, List.length_take]; omega
      have HLl := Lib.hid hln
      clear hx hbd hb2 hln
      go_wp2_with (at_builtin; refine wpList_app_sl rfl _ _ rfl rfl HS2.out (wr.heap.size + 1) rfl (heap_new2 _ _ _) rfl HO1.out HO2.out HLl.out ?_; intro v6 w6 hS6 hg6 hob6; have HS6 := Lib.hid hS6; clear hS6 hg6 hob6)
      go_roundw
      case rel => exact ⟨i + 1, _, by go_num, by omega, by rw [HM.out]; exact HS6.out⟩
      case measure => simp [intOf]; omega
    · have hi : i = nf := by omega
      have HS0 := Lib.hid (show VsSl wr wr.heap.size u4 (lev b 0) from by
        have h := HSl.out.sl
        rwa [List.take_of_length_le (by have := HNf.out; omega)] at h)
      have HBr := Lib.hid HSl.out.bel
      have HL0 := Lib.hid (show (lev b 0).length ≤ 2048 from by show (b.first.map _).length ≤ 2048; rw [List.length_map]; have := HNf.out; omega)
      clear HSl hi
      go_wp2_with fail
      go_loopw [4, 6] (fun ov iv wr => ∃ v : Nat, iv = .int .i64 (v : Int) ∧ v ≤ len ∧ VsSl wr wr.heap.size ov (lev b v) ∧ (lev b v).length ≤ 2048 ∧ Below W0.heap.size W0 wr) (fun _ iv _ => len - (intOf iv).toNat)
      case atStart => exact ⟨0, rfl, by omega, HS0.out, HL0.out, HBr.out⟩
      case round =>
        obtain ⟨v, rfl, hvl, hO, hOl, hb⟩ := hrel
        have HO := Lib.hid hO
        have HB1 := Lib.hid hb
        obtain ⟨Ao, co, rfl⟩ := hO.form
        clear k0 k1 hO hb HS0 HBr HL0
        obtain ⟨k0, k1⟩ := HX.out wr HB1.out
        obtain ⟨no, hno⟩ : ∃ no, (lev b v).length = no := ⟨_, rfl⟩
        have HNo := Lib.hid hno
        rw [hno] at HO hOl ⊢
        clear hno
        by_cases hvt : v < len
        · obtain ⟨x, ad, Af, At, cf, ct, hx, rfl, hcd⟩ := ch_all HCh.out hvt
          have HSx := Lib.hid (HS.out.2.2 x (List.mem_of_getElem? hx))
          have HCd := Lib.hid hcd
          obtain ⟨A, B, hA, hB, hD⟩ := step_data HVal.out hx
          have HP := Lib.hid (lev_P HVal.out v A (by have := HLn.out; omega) hA)
          have HFu := Lib.hid (fun g y (h1 : g.length = v + 1) (h2 : g.getLast? = some y) => (fur_at hx h1 h2 : furF b g = if y ∈ x.fr then x.to else [y]))
          have HTo := Lib.hid (show x.to ≠ [] from fun h => by have := (val_pos HVal.out hx).2; rw [h] at this; simp at this)
          have hvi : (v : Int) < (len : Int) := by omega
          clear hx hcd hA hB hD
          obtain ⟨Wb, rfl⟩ : ∃ Wb, Wb = wr := ⟨_, rfl⟩
          go_wp2_with fail
          go_loopw [7, 8] (fun mv iv wq => ∃ (i : Nat) (vals : List Value), iv = .int .i64 (i : Int) ∧ i ≤ no ∧ SlI Wb (cut (stp b ((lev b v).take i))) vals mv wq) (fun _ iv _ => no - (intOf iv).toNat)
          case atStart => exact ⟨0, [], rfl, by omega, SlI.start _⟩
          case round =>
            obtain ⟨i, vals, rfl, hin, hS⟩ := hrel
            have HSl := Lib.hid hS
            have HBw := Lib.hid (HB1.out.trans (hS.bel.mono HB1.out.size))
            clear k0 k1 hS
            obtain ⟨k0, k1⟩ := HX.out wr HBw.out
            by_cases hlt : i < no
            · obtain ⟨adO, ug, g, rfl, hbd, hg, hcg0, hgS⟩ := HO.out.at_ hlt
              obtain ⟨hgl, y, hyA, hgy⟩ := HP.out g (List.mem_of_getElem? hg)
              have hfu := HFu.out g y hgl hgy
              have HGo := Lib.hid (show ∀ Y, Below W0.heap.size W0 Y → _ from fun Y hY => rgoes_any _ _ x y Y (HCd.out Y hY).2.1 (HCd.out Y hY).2.2 (by have := HSx.out.1; omega))
              simp only [show goesF x y = furF b g from hfu.symm] at HGo
              have hyv : g[v]? = some y := by rw [← hgy, List.getLast?_eq_getElem?, hgl]; rfl
              obtain ⟨Ag, cg, rfl, _⟩ := hgS.form
              have HGi := Lib.hid (show InA wr Wb.heap.size Ag g from by obtain ⟨_, _, e, _, _, h⟩ := hgS; cases e; exact h.below HSl.out.bel)
              have HGb := Lib.hid (show ∀ Y, Below Wb.heap.size Wb Y → Y.cell? (adO.add i) = some (.slice Ag g.length cg) ∧ InSl Y Wb.heap.size (.slice Ag g.length cg) g from fun Y hY => ⟨(hY.cell (by rw [add_block]; exact hbd)).trans hcg0, hgS.below hY⟩)
              have hcg := (HGb.out wr HSl.out.bel).1
              have HNx := Lib.hid (stp_next (b := b) hg)
              obtain ⟨F, hF⟩ : ∃ F, furF b g = F := ⟨_, rfl⟩
              have HFl := Lib.hid (show F.length ≤ 1000 from by
                rw [← hF, hfu]
                split
                · exact HSx.out.2
                · simp)
              rw [hF] at HGo HNx
              obtain ⟨adg, rfl, hadg, hcy⟩ := HGi.out v y hyv
              obtain ⟨⟨d0, d1, d2⟩, _, _⟩ := HCd.out wr HBw.out
              have HGl := Lib.hid hgl
              rw [hgl] at hcg HGb
              have hi1 : (i : Int) < (no : Int) := by omega
              have hv1 : (v : Int) < (v : Int) + 1 := by omega
              have hv2 : v < v + 1 := by omega
              have HGd := Lib.hid (HGo.out wr.drew (HBw.out.drew))
              clear hg hyA hgy hfu hyv hF hgS hbd hadg hcg0
              go_wp2_with fail
              refine wp_region_tail 12 (by kernel_rfl) (by kernel_rfl) ?_
              simp only [List.take_succ_cons, List.take_zero, List.drop_succ_cons, List.drop_zero]
              iterate 12 ((with_reducible refine wpStill_step ?_); intro K hK; go_simp; (try (refine ite_neg_of (by simp [undef] <;> assumption) ?_)); (with_reducible refine hK _ ?_); clear hK K)
              (with_reducible refine wpStill_nil ?_)
              go_wp2_with fail
              (with_reducible refine HGd.out.mono ?_)
              rintro e W2 ⟨⟨lv, rfl, hl, hlo⟩, hb⟩
              have HB2 := Lib.hid (show Below wr.heap.size wr W2 from (Below.refl _ _).drew.trans hb)
              have HSl2 := Lib.hid (HSl.out.step HB2.out)
              have HAp := Lib.hid (show Ap W2 u7 lv F from ⟨hl, fun gg e => by
                rcases hlo with h | ⟨g2, h, h2, h3⟩
                · subst h
                  have h4 := (HCd.out Wb HB1.out).2.2.ownLt HTo.out e
                  exact ⟨fun e3 => by have := (HSl.out.lt e3).1; omega, by have := HSl.out.bel.size; have := HB2.out.size; omega⟩
                · rw [h, own_slice] at e
                  have e2 : g2 = gg := by injection e
                  subst e2
                  exact ⟨fun e3 => by have := (HSl.out.lt e3).2; have : wr.drew.heap.size = wr.heap.size := rfl; omega, h3⟩⟩)
              obtain ⟨Al, cl, rfl, _⟩ := hl.form
              obtain ⟨Mi, hMi⟩ : ∃ M, stp b ((lev b v).take i) = M := ⟨_, rfl⟩
              rw [hMi] at HNx HSl2
              obtain ⟨nl, hnl⟩ : ∃ nl, F.length = nl := ⟨_, rfl⟩
              have HNl := Lib.hid hnl
              rw [hnl] at HAp HFl ⊢
              have hnl1 : nl ≤ 1000 := HFl.out
              clear hb hl hlo k0 k1 d0 d1 d2 hcy hcg HGd hMi hnl HFl HSl
              go_wp2_with fail
              go_loopw [7, 10] (fun mv kv wq => ∃ (k : Nat) (vals : List Value), kv = .int .i64 (k : Int) ∧ k ≤ nl ∧ SlI Wb (cut (Mi ++ (F.take k).map fun y => g ++ [y])) vals mv wq ∧ Ap wq mv (.slice Al nl cl) F) (fun _ kv _ => nl - (intOf kv).toNat)
              case atStart => exact ⟨0, vals, rfl, by omega, by rw [List.take_zero, List.map_nil, List.append_nil]; exact HSl2.out, HAp.out⟩
              case round =>
                obtain ⟨k, vals, rfl, hkl, hS, hA⟩ := hrel
                have HSk := Lib.hid hS
                have HAk := Lib.hid hA
                have HBk := Lib.hid (HB1.out.trans (hS.bel.mono HB1.out.size))
                have hcl := cut_len (Mi ++ (F.take k).map fun y => g ++ [y])
                obtain ⟨nm, hnm⟩ : ∃ nm, (cut (Mi ++ (F.take k).map fun y => g ++ [y])).length = nm := ⟨_, rfl⟩
                have HNm := Lib.hid hnm
                rw [hnm] at hcl
                have hform : ∃ Am cm, u7 = .slice Am nm cm := by
                  rcases hS.own.2 with ⟨e, h0⟩ | ⟨gg, cap, cur, e, _⟩
                  · exact ⟨none, 0, by rw [e, ← hnm, h0]⟩
                  · exact ⟨_, cap, by rw [e, hnm]⟩
                obtain ⟨Am, cm, rfl⟩ := hform
                clear hS hA hnm
                by_cases hkt : k < nl
                · by_cases hfull : 2048 < nm
                  · have HE := Lib.hid (show cut (Mi ++ F.map fun y => g ++ [y]) = cut (Mi ++ (F.take k).map fun y => g ++ [y]) from by
                      have h := cut_full (A := Mi ++ (F.take k).map fun y => g ++ [y]) (B := (F.drop k).map fun y => g ++ [y]) (by rw [HNm.out]; exact hfull)
                      rw [List.append_assoc, ← List.map_append, List.take_append_drop] at h
                      exact h)
                    have hki : (k : Int) < (nl : Int) := by omega
                    have hn2 : ¬ (nm : Int) ≤ 2048 := by omega
                    go_wp2_with fail
                    go_roundw
                    case rel => exact ⟨i + 1, vals, by go_num, by omega, by rw [HNx.out, HE.out]; exact HSk.out⟩
                    case measure => simp [intOf]; omega
                  · obtain ⟨z, adl, hz, rfl, hbl, hcz⟩ := (show InA wr wr.heap.size Al F from by obtain ⟨_, _, e, _, _, h⟩ := HAk.out.sl; cases e; exact h).at_ HNl.out hkt
                    have hki : (k : Int) < (nl : Int) := by omega
                    have hn2 : (nm : Int) ≤ 2048 := by omega
                    go_wp2_with fail
                    have HNy := Lib.hid (show cut (Mi ++ (F.take (k + 1)).map fun y => g ++ [y]) = cut (Mi ++ (F.take k).map fun y => g ++ [y]) ++ [g ++ [z]] from by
                      rw [map_next hz, ← List.append_assoc]; exact cut_more (by rw [HNm.out]; omega))
                    have hgl3 : g.length ≤ 1000 := by have := HGl.out; omega
                    have HZ := Lib.hid hcz
                    have hno1 : i < no := hlt
                    clear hz hcz hbl
                    refine wp_opaque ?_
                    intro t0 ht0
                    have hsz0 : t0.size = 87 := by rw [ht0]; rfl
                    have t4 : t0.getD 4 undef = .slice (some adO) no co := by rw [ht0]; rfl
                    have t7 : t0.getD 7 undef = .slice Am nm cm := by rw [ht0]; rfl
                    have t8 : t0.getD 8 undef = .int .i64 (i : Int) := by rw [ht0]; rfl
                    have t9 : t0.getD 9 undef = .slice (some adl) nl cl := by rw [ht0]; rfl
                    have t10 : t0.getD 10 undef = .int .i64 (k : Int) := by rw [ht0]; rfl
                    have HT0 := Lib.hid ht0
                    clear ht0
                    refine wp_region_vals [some 64, some 65, some 66, some 67, some 68, some 69, some 70, some 71, some 72, some 73, some 74, some 75, some 76, some 77, some 78, some 7] (FtI wr.drew g z (fun u X => ∃ vals', SlI Wb (cut (Mi ++ (F.take (k + 1)).map fun y => g ++ [y])) vals' u X ∧ Ap X u (.slice (some adl) nl cl) F) (.slice Am nm cm) (.slice (some adO) no co) (.int .i64 (i : Int)) (.pointer (some (adO.add i))) (.slice (some adg) (v + 1) cg) (.slice (some adl) nl cl) (.int .i64 (k : Int)) (.pointer (some (adl.add k))) (.int .i64 z)) (by kernel_rfl) (by kernel_rfl) rfl rfl (by simp [hsz0]) (by kernel_rfl) ?_ ?_ ?_
                    · intro val
                      exact ⟨(fun h => nomatch h), (fun h => nomatch h), (fun h => nomatch h), (fun h => nomatch h), (fun h => nomatch h), (fun h => nomatch h), (fun h => nomatch h), (fun h => nomatch h), (fun h => nomatch h), fun _ => Below.refl _ _, (fun h => nomatch h), (fun h => nomatch h), (fun h => nomatch h), (fun h => nomatch h), (fun h => nomatch h), (fun h => nomatch h), (fun h => nomatch h)⟩
                    · intro dn j o hi hd hp hc val X a ha hn hI K hK
                      have hj : j < 16 := by
                        have := (Array.getElem?_eq_some_iff.1 hi).1
                        simpa using this
                      have c5 : dn 5 = true → dn 4 = true := fun h => hc 5 _ rfl h ⟨4, .data⟩ (by simp) rfl
                      have c4 : dn 4 = true → dn 2 = true ∧ dn 3 = true := fun h => ⟨hc 4 _ rfl h ⟨2, .data⟩ (by simp) rfl, hc 4 _ rfl h ⟨3, .data⟩ (by simp) rfl⟩
                      have c6 : dn 6 = true → dn 1 = true ∧ dn 5 = true := fun h => ⟨hc 6 _ rfl h ⟨1, .data⟩ (by simp) rfl, hc 6 _ rfl h ⟨5, .data⟩ (by simp) rfl⟩
                      have c9 : dn 9 = true → dn 7 = true ∧ dn 8 = true := fun h => ⟨hc 9 _ rfl h ⟨7, .data⟩ (by simp) rfl, hc 9 _ rfl h ⟨8, .data⟩ (by simp) rfl⟩
                      have c10 : dn 10 = true → dn 9 = true := fun h => hc 10 _ rfl h ⟨9, .data⟩ (by simp) rfl
                      have c11 : dn 11 = true → dn 10 = true := fun h => hc 11 _ rfl h ⟨10, .data⟩ (by simp) rfl
                      have c12 : dn 12 = true → dn 6 = true ∧ dn 11 = true := fun h => ⟨hc 12 _ rfl h ⟨6, .data⟩ (by simp) rfl, hc 12 _ rfl h ⟨11, .data⟩ (by simp) rfl⟩
                      have c13 : dn 13 = true → dn 12 = true := fun h => hc 13 _ rfl h ⟨12, .data⟩ (by simp) rfl
                      have c14 : dn 14 = true → dn 0 = true ∧ dn 13 = true := fun h => ⟨hc 14 _ rfl h ⟨0, .data⟩ (by simp) rfl, hc 14 _ rfl h ⟨13, .data⟩ (by simp) rfl⟩
                      have c15 : dn 15 = true → dn 14 = true := fun h => hc 15 _ rfl h ⟨14, .data⟩ (by simp) rfl
                      have bf : ∀ {q : Bool}, (q = true → False) → q = false := fun {q} h => by cases q; rfl; exact (h rfl).elim
                      rcases (show j = 0 ∨ j = 1 ∨ j = 2 ∨ j = 3 ∨ j = 4 ∨ j = 5 ∨ j = 6 ∨ j = 7 ∨ j = 8 ∨ j = 9 ∨ j = 10 ∨ j = 11 ∨ j = 12 ∨ j = 13 ∨ j = 14 ∨ j = 15 by omega) with rfl | rfl | rfl | rfl | rfl | rfl | rfl | rfl | rfl | rfl | rfl | rfl | rfl | rfl | rfl | rfl
                      · obtain rfl := Option.some.inj hi
                        have n15 : dn 15 = false := bf fun h => f_t hd (c14 (c15 h)).1
                        exact opMove 7 _ rfl (((ha 7).trans (hn 15 7 n15 rfl)).trans t7) (hK _ _ hI.op0)
                      · obtain rfl := Option.some.inj hi
                        have n6 : dn 6 = false := bf fun h => f_t hd (c6 h).1
                        have n12 : dn 12 = false := bf fun h => f_t n6 (c12 h).1
                        have n13 : dn 13 = false := bf fun h => f_t n12 (c13 h)
                        have n14 : dn 14 = false := bf fun h => f_t n13 (c14 h).2
                        exact opNew rfl (hK _ _ (hI.op1 n6 n12 n13 n14 (bf fun h => f_t n14 (c15 h))))
                      · obtain rfl := Option.some.inj hi
                        exact opMove 4 _ rfl ((ha 4).trans t4) (hK _ _ hI.op2)
                      · obtain rfl := Option.some.inj hi
                        exact opMove 8 _ rfl ((ha 8).trans t8) (hK _ _ hI.op3)
                      · obtain rfl := Option.some.inj hi
                        have y2 := hp ⟨2, .data⟩ (by simp) rfl
                        have y3 := hp ⟨3, .data⟩ (by simp) rfl
                        exact opIxS 66 67 no co i adO rfl ((ha 66).trans (hI.s2 y2)) ((ha 67).trans (hI.s3 y3)) hno1 (hK _ _ hI.op4)
                      · obtain rfl := Option.some.inj hi
                        have y4 := hp ⟨4, .data⟩ (by simp) rfl
                        have n14 : dn 14 = false := bf fun h => f_t hd (c6 (c12 (c13 (c14 h).2)).1).2
                        exact opLdS 68 (adO.add i) _ rfl ((ha 68).trans (hI.s4 y4)) (HGb.out X (HSk.out.bel.trans ((show Below wr.heap.size wr X from (Below.refl _ _).drew.trans (hI.bel n14)).mono HSk.out.bel.size))).1 (hK _ _ hI.op5)
                      · obtain rfl := Option.some.inj hi
                        have y1 := hp ⟨1, .data⟩ (by simp) rfl
                        have y5 := hp ⟨5, .data⟩ (by simp) rfl
                        have n12 : dn 12 = false := bf fun h => f_t hd (c12 h).1
                        have n13 : dn 13 = false := bf fun h => f_t n12 (c13 h)
                        have n14 : dn 14 = false := bf fun h => f_t n13 (c14 h).2
                        exact run_appN (.tmp 65) (.tmp 69) rfl (hI.e1 y1 hd) (ha 65) ((ha 69).trans (hI.s5 y5)) (HGb.out X (HSk.out.bel.trans ((show Below wr.heap.size wr X from (Below.refl _ _).drew.trans (hI.bel n14)).mono HSk.out.bel.size))).2 (by simp only [List.length_nil]; omega) (fun v' w' h1 h2 h3 => hK _ _ (hI.op6 y1 hd n12 n13 n14 (bf fun h => f_t n14 (c15 h)) h1 h2 h3))
                      · obtain rfl := Option.some.inj hi
                        exact opMove 9 _ rfl ((ha 9).trans t9) (hK _ _ hI.op7)
                      · obtain rfl := Option.some.inj hi
                        exact opMove 10 _ rfl ((ha 10).trans t10) (hK _ _ hI.op8)
                      · obtain rfl := Option.some.inj hi
                        have y7 := hp ⟨7, .data⟩ (by simp) rfl
                        have y8 := hp ⟨8, .data⟩ (by simp) rfl
                        exact opIx 71 72 nl cl k adl rfl ((ha 71).trans (hI.s7 y7)) ((ha 72).trans (hI.s8 y8)) hkt (hK _ _ hI.op9)
                      · obtain rfl := Option.some.inj hi
                        have y9 := hp ⟨9, .data⟩ (by simp) rfl
                        have n14 : dn 14 = false := bf fun h => f_t hd (c11 (c12 (c13 (c14 h).2)).2)
                        have hb3 : Below wr.heap.size wr X := (Below.refl _ _).drew.trans (hI.bel n14)
                        exact opLd 73 (adl.add k) _ rfl ((ha 73).trans (hI.s9 y9)) ((hb3.cell (World.block_lt_of_cell? _ _ HZ.out)).trans HZ.out) (hK _ _ hI.op10)
                      · obtain rfl := Option.some.inj hi
                        have y10 := hp ⟨10, .data⟩ (by simp) rfl
                        have n12 : dn 12 = false := bf fun h => f_t hd (c12 h).2
                        have n13 : dn 13 = false := bf fun h => f_t n12 (c13 h)
                        have n14 : dn 14 = false := bf fun h => f_t n13 (c14 h).2
                        exact opBox 74 z rfl ((ha 74).trans (hI.s10 y10)) (hK _ _ (hI.op11 n12 n13 n14 (bf fun h => f_t n14 (c15 h))))
                      · obtain rfl := Option.some.inj hi
                        have y6 := hp ⟨6, .data⟩ (by simp) rfl
                        have y11 := hp ⟨11, .data⟩ (by simp) rfl
                        have n13 : dn 13 = false := bf fun h => f_t hd (c13 h)
                        have n14 : dn 14 = false := bf fun h => f_t n13 (c14 h).2
                        obtain ⟨gb, hv1, hv2, _, _⟩ := hI.e11 y11 hd
                        exact run_appN (.tmp 70) (.tmp 75) rfl (hI.e6 y6 hd) (ha 70) ((ha 75).trans hv1) (box_sl hv2) (by simp only [List.length_singleton]; omega) (fun v' w' h1 _ _ => hK _ _ (hI.op12 y6 n13 n14 (bf fun h => f_t n14 (c15 h)) h1))
                      · obtain rfl := Option.some.inj hi
                        have y12 := hp ⟨12, .data⟩ (by simp) rfl
                        have n14 : dn 14 = false := bf fun h => f_t hd (c14 h).2
                        have hO := hI.op13 (c12 y12).1 y12 n14 (bf fun h => f_t n14 (c15 h))
                        obtain ⟨A7, c7, hv, _⟩ := (hI.e12 y12 n14).sl.form
                        rw [hv] at hO
                        exact opBoxS 76 A7 _ c7 rfl ((ha 76).trans hv) (hK _ _ hO)
                      · obtain rfl := Option.some.inj hi
                        have y0 := hp ⟨0, .data⟩ (by simp) rfl
                        have y13 := hp ⟨13, .data⟩ (by simp) rfl
                        have y12 := c13 y13
                        have y6 := (c12 y12).1
                        obtain ⟨gs, hv1, hv2⟩ := hI.e13 y13 hd
                        have hO := hI.e12 y12 hd
                        obtain ⟨A7, c7, hv, _⟩ := hO.sl.form
                        have hb3 : Below wr.heap.size wr X := (Below.refl _ _).drew.trans (hI.bel hd)
                        refine run_append_sl (.tmp 64) (.tmp 77) rfl ((ha 64).trans (hI.s0 y0)) (HSk.out.step hb3) gs ((ha 77).trans hv1) hv2 (by rw [hv]; rfl) hO.sl (fun gg e => ?_) (by rw [HNm.out]; omega) (fun v' w' h1 h2 h3 => hK _ _ (hI.op14 y6 y12 (bf fun h => f_t hd (c15 h)) ⟨_, by rw [HNy.out]; exact h1, (HAk.out.step hb3).push h2 h3⟩))
                        have hlt3 := hO.own.lt _ e
                        refine ⟨fun e2 => ?_, hlt3.2⟩
                        have := (HSk.out.lt e2).2
                        have h5 : wr.drew.heap.size = wr.heap.size := rfl
                        omega
                      · obtain rfl := Option.some.inj hi
                        exact opAssign 78 _ rfl (ha 78) (hK _ _ hI.op15)
                    · intro dn val X hdn hI
                      obtain ⟨vals', hS', hA'⟩ := hI.e14 (hdn 14 (by simp))
                      have e15 := hI.e15 (hdn 15 (by simp))
                      have HS5 := Lib.hid (And.intro hS' hA')
                      clear hdn hI hS' hA'
                      simp only [wrS, HT0.out, e15]
                      simp only [List.setIfInBounds_toArray, List.set_cons_succ, List.set_cons_zero]
                      simp only [Exit.inBlock, Exit.then]
                      clear e15 HNy t4 t7 t8 t9 t10 hsz0 HT0
                      go_wp2_with fail
                      go_roundw
                      case rel => exact ⟨k + 1, vals', by go_num, by omega, HS5.out.1, HS5.out.2⟩
                      case measure => simp [intOf]; omega
                · have HE := Lib.hid (show F.take k = F from List.take_of_length_le (by have := HNl.out; omega))
                  have hki : ¬ (k : Int) < (nl : Int) := by omega
                  go_wp2_with fail
                  go_roundw
                  case rel => exact ⟨i + 1, vals, by go_num, by omega, by rw [HNx.out, ← HE.out]; have h := HSk.out; rw [HE.out] at h ⊢; exact h⟩
                  case measure => simp [intOf]; omega
            · have HS6 := Lib.hid (show SlI Wb (cut (lev b (v + 1))) vals u7 wr from by
                have h := HSl.out
                rwa [List.take_of_length_le (by have := HNo.out; omega)] at h)
              obtain ⟨nm, hnm⟩ : ∃ nm, (cut (lev b (v + 1))).length = nm := ⟨_, rfl⟩
              have HNm := Lib.hid hnm
              have hform : ∃ Am cm, u7 = .slice Am nm cm := by
                rcases HS6.out.own.2 with ⟨e, h0⟩ | ⟨gg, cap, cur, e, _⟩
                · exact ⟨none, 0, by rw [e, ← hnm, h0]⟩
                · exact ⟨_, cap, by rw [e, hnm]⟩
              obtain ⟨Am, cm, rfl⟩ := hform
              clear hnm HSl
              by_cases hbig : 2048 < nm
              · have HR := Lib.hid (show rich b = true from by
                  rw [HRi.out, decide_eq_true_eq, allF_lev]
                  have h1 : 2048 < (lev b (v + 1)).length := cut_big (by rw [HNm.out]; exact hbig)
                  have h2 := lev_mono HVal.out (len - (v + 1)) (v + 1) (by have := HLn.out; omega)
                  rw [show v + 1 + (len - (v + 1)) = b.chs.length from by have := HLn.out; omega] at h2
                  omega)
                have hRB := HRB.out
                have hRL := HRL.out
                rw [HR.out] at hRB hRL
                have HRB := Lib.hid hRB
                have HRL := Lib.hid hRL
                have hni : (2048 : Int) < (nm : Int) := by omega
                clear hRB hRL
                go_wp2_with fail
                go_ret2
                exact ⟨⟨_, by rw [← HRB.out]; rfl, by rw [← HRL.out, if_pos trivial]; exact ⟨none, 0, [], rfl, ⟨rfl, fun i v L h => by simp at h⟩, fun i u hu => by simp at hu⟩⟩, HB0.out.trans (HBw.out.mono HB0.out.size)⟩
              · have HE := Lib.hid (show cut (lev b (v + 1)) = lev b (v + 1) from cut_small (by rw [HNm.out]; exact hbig))
                have hni : ¬ (2048 : Int) < (nm : Int) := by omega
                go_wp2_with fail
                go_roundw
                case rel => exact ⟨v + 1, by go_num, by omega, by rw [← HE.out]; exact HS6.out.sl, by rw [← HE.out, HNm.out]; omega, HBw.out⟩
                case measure => simp [intOf]; omega
        · obtain rfl : v = len := by omega
          have HA := Lib.hid (show lev b v = allF b from by rw [allF_lev, HLn.out])
          have HR := Lib.hid (show rich b = false from by rw [HRi.out, decide_eq_false_iff_not, ← HA.out, HNo.out]; omega)
          go_wp2_with fail
          go_ret2
          have hno : decide ((no : Int) ≤ 2048) = RB := by rw [← HRB.out, HR.out]; exact decide_eq_true (by omega)
          exact ⟨⟨_, by rw [← hno]; rfl, by rw [← HRL.out, HR.out, if_neg (by simp), ← HA.out]; exact HO.out⟩, HB0.out.trans (HB1.out.mono HB0.out.size)⟩
end Go.Proofs.Ytplpogonkfnafaa
