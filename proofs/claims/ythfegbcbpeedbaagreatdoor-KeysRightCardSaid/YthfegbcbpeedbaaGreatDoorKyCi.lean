
/- Confused. -/
import Derived.Test.YthfegbcbpeedbaaGreatDoorKyCh
import Derived.Test.YthfegbcbpeedbaaGreatDoorKyCs
namespace Go.Proofs.YthfegbcbpeedbaaGreatDoor
open Go.RowKit Go.Nm Go.Ky Go.Maps

theorem pair_sl {w : World} {x y : Int} {g : Nat} (h : w.heap[g]? = some (.cells #[.int .i64 x, .int .i64 y] 3)) : InSl w w.heap.size (.slice (some ⟨g, 0, none⟩) 2 2) [x, y] :=
  ⟨some ⟨g, 0, none⟩, 2, rfl, Nat.le_refl _, by unfold maxLen; omega, fun i z hz => by
    have hi : i < 2 := by have := (List.getElem?_eq_some_iff.1 hz).1; simpa using this
    obtain ⟨k0, k1⟩ := cells_two h
    refine ⟨⟨g, 0, none⟩, rfl, (Array.getElem?_eq_some_iff.1 h).1, ?_⟩
    rcases (show i = 0 ∨ i = 1 by omega) with rfl | rfl
    · injection hz with hz; subst hz; exact k0
    · injection hz with hz; subst hz; exact k1⟩
theorem flat_next {L : List Int} {p : Nat} {a : Int} (h : L[p]? = some a) (F : Int → List (List Int)) : (L.take (p + 1)).flatMap F = (L.take p).flatMap F ++ F a := by
  rw [show L.take (p + 1) = L.take p ++ [a] from by rw [List.take_add_one, h]; rfl, List.flatMap_append]
  simp
theorem flat_len {L : List Int} {F : Int → List (List Int)} {b : Nat} (h : ∀ a, (F a).length ≤ b) : (L.flatMap F).length ≤ L.length * b := by
  induction L with
  | nil => simp
  | cons x L ih =>
    rw [List.flatMap_cons, List.length_append, List.length_cons, Nat.succ_mul]
    have := h x
    omega
set_option maxRecDepth 100000 in
set_option maxHeartbeats 8000000 in
theorem Confused_any (v u : Value) (m : Mx) (k : Kx) (w : World) (hv : MxV w v m) (hs : MSm m) (hu : KyV w u k) (hk : KSm k) (hT : TabH w) :
    Calls Tryz.prog 11 #[v, u] w fun e w' => (∃ x, e = .returned (.tuple #[x, .int .i64 (ckE m k)]) ∧ VsSl w' w'.heap.size x (confL m k)) ∧ Below w.heap.size w w' := by
  obtain ⟨A1, c1, A2, c2, W0, rfl, hW0, hb0, hM, hS, hR, hX⟩ := mx_box hv
  have hz : W0.heap.size = w.heap.size + 1 := by rw [← hW0]; simp
  obtain ⟨B1, d1, B2, d2, W1, rfl, hW1, hb1, hK, hNd, hV, hX1⟩ := ky_box (hu.step hb0)
  rw [hz] at hX1
  have HW := Lib.hid (And.intro hW0 hW1)
  have hB1 := hb0.trans (hb1.mono hb0.size)
  have HB1 := Lib.hid hB1
  have HX := Lib.hid (fun Y (h : Below W1.heap.size W1 Y) => And.intro (hX Y (hb1.trans (h.mono hb1.size))) (hX1 Y h))
  have HC := Lib.hid (CheckKey_any _ _ m k W1 (hM W1 hb1) hs (hK W1 (Below.refl _ _)) hk)
  have HV := Lib.hid hV
  have HTb := Lib.hid (fun Y (h : Below W1.heap.size W1 Y) => (hT.step hB1).step h)
  have HCk := Lib.hid (ck_cases m k)
  have HNm := Lib.hid (fun h : ckE m k = 0 => show ∀ L ∈ k.lv, Nms L from fun L hL => by
    have hlv := (ck_ok h).2.1
    unfold leavesF at hlv
    rw [Bool.and_eq_true] at hlv
    exact of_decide_eq_true (List.all_eq_true.1 hlv.1 L hL))
  have HE := Lib.hid (show confL m k = (if ckE m k = 0 then confF k.lv else []) from rfl)
  have HLl := Lib.hid hk.2.2.2
  obtain ⟨ce, hce⟩ : ∃ c, ckE m k = c := ⟨_, rfl⟩
  obtain ⟨cl, hcl⟩ : ∃ c, confL m k = c := ⟨_, rfl⟩
  rw [hce] at HC HE HCk HNm
  rw [hcl] at HE
  rw [hcl, hce]
  obtain ⟨nl, hnl⟩ : ∃ n, k.lv.length = n := ⟨_, rfl⟩
  have HN := Lib.hid hnl
  have hnl2 : nl ≤ 2000 := by rw [← hnl]; exact hk.2.1
  rw [hnl] at HX HW HC HV
  rw [hnl]
  obtain ⟨⟨k0, k1⟩, k2, k3⟩ := HX.out W1 (Below.refl _ _)
  generalize k.nd.length = nn at *
  generalize m.rows.length = nr at *
  generalize m.st.length = ns at *
  clear hv hu hs hk hT hW0 hb0 hM hS hR hX hz hW1 hb1 hK hNd hV hX1 hce hcl hB1 hnl
  have hmm := @run_makeMap Tryz.prog
  go_enter Tryz.func11, Tryz.ntmps11
  go_wp2_with fail
  rw [HW.out.1, HW.out.2]
  (try go_wp2_with fail)
  (with_reducible refine HC.out.mono ?_)
  rintro e w1 ⟨rfl, hb⟩
  have HB2 := Lib.hid hb
  clear k0 k1 k2 k3 HC hb
  obtain ⟨⟨k0, k1⟩, k2, k3⟩ := HX.out w1 HB2.out
  rcases HCk.out with h0 | h0 | h0
  rotate_left
  · subst h0
    have HF := Lib.hid (show cl = [] from by rw [HE.out]; simp)
    go_wp2_with fail
    go_ret2
    exact ⟨⟨_, rfl, by rw [HF.out]; exact ⟨none, 0, [], rfl, ⟨rfl, fun i v L h => by simp at h⟩, fun i u h => by simp at h⟩⟩, HB1.out.trans (HB2.out.mono HB1.out.size)⟩
  · subst h0
    have HF := Lib.hid (show cl = [] from by rw [HE.out]; simp)
    go_wp2_with fail
    go_ret2
    exact ⟨⟨_, rfl, by rw [HF.out]; exact ⟨none, 0, [], rfl, ⟨rfl, fun i v L h => by simp at h⟩, fun i u h => by simp at h⟩⟩, HB1.out.trans (HB2.out.mono HB1.out.size)⟩
  · subst h0
    have HNs := Lib.hid (HNm.out rfl)
    have HF := Lib.hid (show cl = confF k.lv from by rw [HE.out]; simp)
    clear HNm HE HCk
    have hg0 := GM.made w1 w1 (Below.refl _ _)
    have hbx : Below w1.heap.size w1 (w1.alloc (.map #[] 0)) := below_new _
    have k3' := (HX.out _ (HB2.out.trans (hbx.mono HB2.out.size))).2.2
    obtain ⟨mb, hmb⟩ : ∃ g, w1.heap.size = g := ⟨_, rfl⟩
    have HMb := Lib.hid hmb
    have HG0 := Lib.hid (show GM w1 mb 0 (fun _ => []) (CfK k.lv (PJ 0 0)) (fun _ => .slice none 0 0) (w1.alloc (.map #[] 0)) from by rw [← hmb]; exact hg0.as (CfK.start k.lv))
    have HVw := Lib.hid (HV.out w1 HB2.out)
    clear hg0 hbx k0 k1 k2 k3
    go_wp2_with fail
    (try rw [hmb])
    clear hmb hmm k3'
    go_loopw [27] (fun jv wr => ∃ (j n : Nat) (G : Int → List (List Int)) (V : Int → Value), jv = .int .i64 (j : Int) ∧ j ≤ nl ∧ GM w1 mb n G (CfK k.lv (PJ j 0)) V wr ∧ n ≤ 1000 * j ∧ CfP k.lv (PJ j 0) G ∧ ∀ a, (G a).length ≤ j) (fun jv _ => nl - (intOf jv).toNat)
    case atStart => exact ⟨0, 0, _, _, rfl, by omega, HG0.out, by omega, CfP.start k.lv, fun a => Nat.le_refl _⟩
    case round =>
      obtain ⟨j, n, G, V, rfl, hjn, hG, hn, hP, hL⟩ := hrel
      have HG := Lib.hid hG
      have HP := Lib.hid (And.intro hP hL)
      clear hG hP hL
      by_cases hlt : j < nl
      · obtain ⟨ad, ul, leaf, rfl, _, hlf, hcw, hin⟩ := HVw.out.at_ hlt
        obtain ⟨Al, cq, rfl, _⟩ := hin.form
        obtain ⟨q, hq⟩ : ∃ q, leaf.length = q := ⟨_, rfl⟩
        have HQ := Lib.hid hq
        have HLf := Lib.hid hlf
        have hq1 : q ≤ 1000 := by rw [← hq]; exact HLl.out leaf (List.mem_of_getElem? hlf)
        have HNl := Lib.hid (HNs.out leaf (List.mem_of_getElem? hlf))
        rw [hq] at hcw hin
        have HIn := Lib.hid hin
        have hcx := (HG.out.bel.cell (World.block_lt_of_cell? _ _ hcw)).trans hcw
        clear hlf hcw hin hq
        go_wp2_with fail
        go_loopw [33] (fun iv wq => ∃ (i n : Nat) (G : Int → List (List Int)) (V : Int → Value), iv = .int .i64 (i : Int) ∧ i ≤ q ∧ GM w1 mb n G (CfK k.lv (PJ j i)) V wq ∧ n ≤ 1000 * j + i ∧ CfP k.lv (PJ j i) G ∧ ∀ a, (G a).length ≤ j + 1 ∧ (a ∉ leaf.take i → (G a).length ≤ j)) (fun iv _ => q - (intOf iv).toNat)
        case atStart => exact ⟨0, n, G, V, rfl, by omega, HG.out, by omega, HP.out.1, fun a => ⟨by have := HP.out.2 a; omega, fun _ => HP.out.2 a⟩⟩
        case round =>
          obtain ⟨i, n2, G2, V2, rfl, hiq, hG2, hn2, hP2, hL2⟩ := hrel
          have HG2 := Lib.hid hG2
          have HP2 := Lib.hid (And.intro hP2 hL2)
          clear hG2 hP2 hL2
          by_cases hlt2 : i < q
          · obtain ⟨z, adl, hz, rfl, _, hcz⟩ := (show InA wr wr.heap.size Al leaf from by obtain ⟨_, _, e, _, _, h⟩ := (HIn.out.step HG2.out.bel); cases e; exact h).at_ HQ.out hlt2
            have hzr := HNl.out.2 z (List.mem_of_getElem? hz)
            have HZ := Lib.hid hz
            have HWz := Lib.hid (show (Lit.int .i64 z).wf = true from WalkArith.wf_i64 (by omega))
            have HSv := Lib.hid (slice_from HIn.out hlt2)
            obtain ⟨sa, hsa⟩ : ∃ x, (if cq = i + 1 then some adl else some (adl.add (i + 1))) = x := ⟨_, rfl⟩
            have HSa := Lib.hid hsa
            rw [hsa] at HSv
            have HLz := Lib.hid (show (G2 z).length ≤ 100000 from by have := (HP2.out.2 z).1; omega)
            have HN2 := Lib.hid (show n2 < maxLen from by unfold maxLen; omega)
            have hwi : IntKind.i64.wrap ((i : Int) + 1) = (i : Int) + 1 := by rw [IntKind.wrap_i64]; omega
            have HWi := Lib.hid hwi
            have hqc : q ≤ cq := by obtain ⟨_, _, e, h1, _⟩ := HIn.out; cases e; rw [HQ.out] at h1; exact h1
            have HQc := Lib.hid hqc
            clear hz hsa hqc hwi
            go_wp2_with fail
            refine wp_opaque ?_
            intro t0 ht0
            have hsz0 : t0.size = 77 := by rw [ht0]; rfl
            have q7 : t0.getD 7 undef = .map (some mb) := by rw [ht0]; rfl
            have q9 : t0.getD 9 undef = .slice (some adl) q cq := by rw [ht0]; rfl
            have q10 : t0.getD 10 undef = .int .i64 (i : Int) := by rw [ht0]; rfl
            have q11 : t0.getD 11 undef = .int .i64 z := by rw [ht0]; rfl
            have HT0 := Lib.hid ht0
            clear ht0
            have HBd := Lib.hid (fun X (hI : Below wr.drew.heap.size wr.drew X) => (Below.refl wr.heap.size wr).drew.trans hI)
            refine wp_region_vals [some 38, some 39, some 40, some 41, some 42, some 43, some 44, some 45, some 46, some 47, some 48, none] (CgI wr.drew w1 mb n2 G2 (CfK k.lv (PJ j i)) V2 z (.slice (some adl) q cq) (.slice sa (q - (i + 1)) (cq - (i + 1))) i (leaf.drop (i + 1))) (by kernel_rfl) (by kernel_rfl) rfl rfl (by simp [hsz0]) (by kernel_rfl) ?_ ?_ ?_
            · intro val
              exact ⟨(fun h => nomatch h), (fun h => nomatch h), (fun h => nomatch h), (fun h => nomatch h), (fun h => nomatch h), (fun h => nomatch h), (fun h => nomatch h), (fun h => nomatch h), (fun h => nomatch h), fun _ => Below.refl _ _, (fun h => nomatch h), (fun h => nomatch h), (fun h => nomatch h)⟩
            · intro dn qq o hi hd hp hc val X a ha hn' hI K hK
              have hq : qq < 12 := by
                have := (Array.getElem?_eq_some_iff.1 hi).1
                simpa using this
              have bf : ∀ {q : Bool}, (q = true → False) → q = false := fun {q} h => by cases q; rfl; exact (h rfl).elim
              have cU : dn 11 = true → dn 0 = true ∧ dn 1 = true ∧ dn 10 = true := fun h => ⟨hc 11 _ rfl h ⟨0, .data⟩ (by simp) rfl, hc 11 _ rfl h ⟨1, .data⟩ (by simp) rfl, hc 11 _ rfl h ⟨10, .data⟩ (by simp) rfl⟩
              have cA : dn 10 = true → dn 4 = true ∧ dn 9 = true := fun h => ⟨hc 10 _ rfl h ⟨4, .data⟩ (by simp) rfl, hc 10 _ rfl h ⟨9, .data⟩ (by simp) rfl⟩
              rcases (show qq = 0 ∨ qq = 1 ∨ qq = 2 ∨ qq = 3 ∨ qq = 4 ∨ qq = 5 ∨ qq = 6 ∨ qq = 7 ∨ qq = 8 ∨ qq = 9 ∨ qq = 10 ∨ qq = 11 by omega) with rfl | rfl | rfl | rfl | rfl | rfl | rfl | rfl | rfl | rfl | rfl | rfl
              · obtain rfl := Option.some.inj hi
                exact opMove 7 _ rfl ((ha 7).trans q7) (hK _ _ hI.op0)
              · obtain rfl := Option.some.inj hi
                exact opMove 11 _ rfl ((ha 11).trans q11) (hK _ _ hI.op1)
              · obtain rfl := Option.some.inj hi
                exact opMove 7 _ rfl ((ha 7).trans q7) (hK _ _ hI.op2)
              · obtain rfl := Option.some.inj hi
                exact opMove 11 _ rfl ((ha 11).trans q11) (hK _ _ hI.op3)
              · obtain rfl := Option.some.inj hi
                have nA : dn 10 = false := bf fun h => f_t hd (cA h).1
                have hGX := HG2.out.step (HBd.out X (hI.bel nA))
                exact opLookG 40 41 mb z _ rfl ((ha 40).trans (hI.s2 (hp ⟨2, .data⟩ (by simp) rfl))) ((ha 41).trans (hI.s3 (hp ⟨3, .data⟩ (by simp) rfl))) (hGX.look z HWz.out) (hK _ _ hI.op4)
              · obtain rfl := Option.some.inj hi
                exact opMove 9 _ rfl ((ha 9).trans q9) (hK _ _ hI.op5)
              · obtain rfl := Option.some.inj hi
                exact opMove 10 _ rfl ((ha 10).trans q10) (hK _ _ hI.op6)
              · obtain rfl := Option.some.inj hi
                exact opAdd1 44 _ _ rfl ((ha 44).trans (hI.s6 (hp ⟨6, .data⟩ (by simp) rfl))) HWi.out (hK _ _ hI.op7)
              · obtain rfl := Option.some.inj hi
                refine opSlG 43 45 q cq adl (i + 1) rfl ((ha 43).trans (hI.s5 (hp ⟨5, .data⟩ (by simp) rfl))) ((ha 45).trans (hI.s7 (hp ⟨7, .data⟩ (by simp) rfl))) (by omega) HQc.out ?_
                rw [HSa.out]
                exact hK _ _ hI.op8
              · obtain rfl := Option.some.inj hi
                have nA : dn 10 = false := bf fun h => f_t hd (cA h).2
                have nU : dn 11 = false := bf fun h => f_t hd (cA (cU h).2.2).2
                exact opBoxS 46 _ _ _ rfl ((ha 46).trans (hI.s8 (hp ⟨8, .data⟩ (by simp) rfl))) (hK _ _ (hI.op9 nA nU))
              · obtain rfl := Option.some.inj hi
                have nU : dn 11 = false := bf fun h => f_t hd (cU h).2.2
                obtain ⟨g, eB, hg⟩ := hI.eB (hp ⟨9, .data⟩ (by simp) rfl) hd
                have hGX := HG2.out.step (HBd.out X (hI.bel hd))
                obtain ⟨vals, hvz⟩ := hGX.ele z
                refine run_app_lv (.tmp 42) (.tmp 47) rfl ((ha 42).trans (hI.s4 (hp ⟨4, .data⟩ (by simp) rfl))) hvz g ((ha 47).trans eB) hg rfl HSv.out HLz.out ?_
                intro v' w' h1 h2 h3
                exact hK _ _ (hI.op10 nU (hGX.app h1 h2 h3))
              · obtain rfl := Option.some.inj hi
                have yA := hp ⟨10, .data⟩ (by simp) rfl
                refine opPutG 38 39 48 rfl ((ha 38).trans (hI.s0 (hp ⟨0, .data⟩ (by simp) rfl))) ((ha 39).trans (hI.s1 (hp ⟨1, .data⟩ (by simp) rfl))) (ha 48) (hI.eA yA hd) HN2.out HWz.out ?_
                intro Y hY
                exact hK _ _ (hI.op11 yA ⟨_, hY⟩)
            · intro dn val X hdn hI
              obtain ⟨v', hU⟩ := hI.eU (hdn 11 (by simp))
              have HU := Lib.hid hU
              have h0 := hI.s0 (hdn 0 (by simp))
              have h1 := hI.s1 (hdn 1 (by simp))
              have h2 := hI.s2 (hdn 2 (by simp))
              have h3 := hI.s3 (hdn 3 (by simp))
              simp only [wrS, HT0.out]
              simp only [List.setIfInBounds_toArray, List.set_cons_succ, List.set_cons_zero]
              (try simp only [Exit.then])
              clear hdn hI hU HT0 hsz0 q7 q9 q10 q11 HBd h0 h1 h2 h3
              (try go_wp2_with fail)
              go_roundw
              case rel =>
                refine ⟨i + 1, n2 + 1, _, _, by go_num, by omega, HU.out.as fun b => CfK.put HLf.out HZ.out b, by omega, HP2.out.1.put HLf.out HZ.out, fun a => ?_⟩
                have hno : z ∉ leaf.take i := fun hm => by
                  obtain ⟨p, hp⟩ := List.getElem?_of_mem hm
                  have hpi : p < i := by have := (List.getElem?_eq_some_iff.1 hp).1; rw [List.length_take] at this; omega
                  rw [List.getElem?_take, if_pos hpi] at hp
                  have hlt3 := List.pairwise_iff_getElem.1 HNl.out.1 p i (List.getElem?_eq_some_iff.1 hp).1 (List.getElem?_eq_some_iff.1 HZ.out).1 hpi
                  rw [(List.getElem?_eq_some_iff.1 hp).2, (List.getElem?_eq_some_iff.1 HZ.out).2] at hlt3
                  omega
                have hz2 := (HP2.out.2 z).2 hno
                show (if a = z then G2 z ++ [leaf.drop (i + 1)] else G2 a).length ≤ j + 1 ∧ (a ∉ leaf.take (i + 1) → (if a = z then G2 z ++ [leaf.drop (i + 1)] else G2 a).length ≤ j)
                rw [show leaf.take (i + 1) = leaf.take i ++ [z] from by rw [List.take_add_one, HZ.out]; rfl]
                by_cases e : a = z
                · subst e
                  rw [if_pos rfl, List.length_append, List.length_singleton]
                  exact ⟨by omega, fun h => absurd (by simp) h⟩
                · rw [if_neg e]
                  exact ⟨(HP2.out.2 a).1, fun h => (HP2.out.2 a).2 fun h2 => h (List.mem_append_left _ h2)⟩
              case measure => simp [intOf]; omega
          · obtain rfl : q = i := by omega
            go_wp2_with fail
            go_roundw
            case rel =>
              have e := HQ.out
              refine ⟨j + 1, n2, G2, V2, by go_num, by omega, HG2.out.as fun a => ?_, by omega, ?_, fun a => (HP2.out.2 a).1⟩
              · rw [← e]; exact CfK.next HLf.out a
              · have h := HP2.out.1
                rw [← e] at h
                exact h.next HLf.out
            case measure => simp [intOf]; omega
      · obtain rfl : nl = j := by omega
        have HGf := Lib.hid (HG.out.as fun z => conf_keys HNs.out HN.out z)
        have HPr := Lib.hid (fun a z => conf_pairs HNs.out HN.out HP.out.1 a z)
        have HBn := Lib.hid (fun a => conf_bound HNs.out HP.out.1 a)
        have HGl := Lib.hid (fun a => HP.out.2 a)
        have hn10 : n ≤ 10000000 := by omega
        have HSo := Lib.hid (sorted_call HGf.out hn10)
        clear HG HP hn10
        go_wp2_with fail
        (with_reducible refine (keys_call _ _).mono ?_)
        rintro e w2 ⟨rfl, rfl⟩
        go_wp2_with fail
        (with_reducible refine HSo.out.mono ?_)
        rintro e w3 ⟨⟨vK, KL, rfl, hKin, hKinc, hKm⟩, hb⟩
        have hKL : KL = keysB k.lv := inc_ext hKinc (keysB_inc _) hKm
        subst hKL
        have HG3 := Lib.hid ((HGf.out.step (below_new _)).step hb)
        have HB3 := Lib.hid (HB2.out.trans (HG3.out.bel.mono HB2.out.size))
        obtain ⟨AK, cK, rfl, _⟩ := hKin.form
        obtain ⟨nK, hnK⟩ : ∃ n, (keysB k.lv).length = n := ⟨_, rfl⟩
        have HNK := Lib.hid hnK
        have HK65 := Lib.hid (show nK ≤ 65536 from by rw [← hnK]; exact keysB_len _)
        rw [hnK] at hKin ⊢
        have HKin := Lib.hid hKin
        clear hKin hKinc hKm hb hnK HGf HSo
        go_wp2_with fail
        go_loopw [12, 55] (fun ov pv wr => ∃ (p : Nat) (vals : List Value) (Ao : Option Addr) (no co : Nat), pv = .int .i64 (p : Int) ∧ ov = .slice Ao no co ∧ p ≤ nK ∧ SlI w3 (((keysB k.lv).take p).flatMap fun a => (pairB k.lv a).map fun b => [a, b]) vals (.slice Ao no co) wr) (fun _ pv _ => nK - (intOf pv).toNat)
        case atStart => exact ⟨0, [], none, 0, 0, rfl, rfl, by omega, SlI.start w3⟩
        case round =>
          obtain ⟨p, vals, Ao, no, co, rfl, rfl, hpn, hO⟩ := hrel
          have HO := Lib.hid hO
          clear hO
          by_cases hlt : p < nK
          · obtain ⟨a, ada, ha, rfl, _, hca⟩ := (show InA wr wr.heap.size AK (keysB k.lv) from by obtain ⟨_, _, e, _, _, h⟩ := HKin.out.step HO.out.bel; cases e; exact h).at_ HNK.out hlt
            have hp6 : (p : Int) < 65536 := by have := HK65.out; omega
            have hak := List.mem_of_getElem? ha
            have har := (allN_mem.1 (List.mem_filter.1 hak).1)
            have HA := Lib.hid ha
            have HWa := Lib.hid (show (Lit.int .i64 a).wf = true from WalkArith.wf_i64 (by omega))
            have HGr := Lib.hid (HG3.out.step HO.out.bel)
            have HBr := Lib.hid (HB3.out.trans (HO.out.bel.mono HB3.out.size))
            have HUn := Lib.hid (union_any (V a) (G a) (pairB k.lv a) wr (by obtain ⟨vs, h⟩ := HGr.out.ele a; exact h.sl) (by have := HGl.out a; omega) (fun L hL => by
              obtain ⟨_, lf, h1, h2⟩ := HBn.out a L hL
              have := HLl.out lf h1
              omega) (fun L hL => (HBn.out a L hL).1) (pairB_inc _ _) (fun z => HPr.out a z) (HTb.out wr HBr.out))
            have HFl := Lib.hid (flat_next ha fun a => (pairB k.lv a).map fun b => [a, b])
            obtain ⟨pre, hpre⟩ : ∃ x, (((keysB k.lv).take p).flatMap fun a => (pairB k.lv a).map fun b => [a, b]) = x := ⟨_, rfl⟩
            have HPl := Lib.hid (show pre.length ≤ 65536 * 65536 from by
              rw [← hpre]
              refine Nat.le_trans (flat_len (b := 65536) fun a => by rw [List.length_map]; exact pairB_len _ _) ?_
              refine Nat.mul_le_mul_right _ ?_
              rw [List.length_take]
              have := HK65.out
              omega)
            rw [hpre] at HO HFl
            clear ha hak har hpre
            go_wp2_with (at_lookup; refine wpList_lookup_g rfl _ _ rfl HGr.out rfl a rfl HWa.out ?_)
            (with_reducible refine HUn.out.mono ?_)
            rintro e w5 ⟨⟨r, rfl, hr⟩, hb5⟩
            have HR := Lib.hid hr.1
            have hrf := hr.2
            have HO5 := Lib.hid (HO.out.step hb5)
            have HB5 := Lib.hid hb5
            clear hb5 hr HUn
            obtain ⟨Ar, cR, rfl, _⟩ := HR.out.form
            obtain ⟨nR, hnR⟩ : ∃ n, (pairB k.lv a).length = n := ⟨_, rfl⟩
            have HNR := Lib.hid hnR
            have HR65 := Lib.hid (show nR ≤ 65536 from by rw [← hnR]; exact pairB_len _ _)
            rw [hnR] at HR hrf ⊢
            clear hnR
            have HRf := Lib.hid hrf
            clear hrf
            obtain ⟨wo, rfl⟩ : ∃ z, z = wr := ⟨_, rfl⟩
            go_wp2_with fail
            have HRo := Lib.hid (show ∀ g, Value.ownBlock (.slice Ar nR cR) = some g → Value.ownBlock (.slice Ao no co) ≠ some g ∧ g < w5.heap.size from fun g e => ⟨fun e2 => by
              have h1 := (HRf.out g e).1
              have h2 := (HO.out.lt e2).2
              omega, (HRf.out g e).2⟩)
            go_loopw [12, 64] (fun ov qv wq => ∃ (q : Nat) (vals : List Value) (Ao : Option Addr) (no co : Nat), qv = .int .i64 (q : Int) ∧ ov = .slice Ao no co ∧ q ≤ nR ∧ InSl wq wq.heap.size (.slice Ar nR cR) (pairB k.lv a) ∧ (∀ g, Value.ownBlock (.slice Ar nR cR) = some g → Value.ownBlock (.slice Ao no co) ≠ some g ∧ g < wq.heap.size) ∧ SlI w3 (pre ++ ((pairB k.lv a).take q).map fun b => [a, b]) vals (.slice Ao no co) wq) (fun _ qv _ => nR - (intOf qv).toNat)
            case atStart => exact ⟨0, vals, _, _, _, rfl, rfl, by omega, HR.out, HRo.out, by simpa using HO5.out⟩
            case round =>
              obtain ⟨q, vals, Ao, no, co, rfl, rfl, hqn, hRi, hRo, hO⟩ := hrel
              have HO := Lib.hid hO
              have HRi := Lib.hid (And.intro hRi hRo)
              clear hO hRi hRo
              by_cases hlt2 : q < nR
              · obtain ⟨b, adb, hbq, rfl, _, hcb⟩ := (show InA wr wr.heap.size Ar (pairB k.lv a) from by obtain ⟨_, _, e, _, _, h⟩ := HRi.out.1; cases e; exact h).at_ HNR.out hlt2
                have hq6 : (q : Int) < 65536 := by have := HR65.out; omega
                obtain ⟨LL, hLL⟩ : ∃ x, (pre ++ ((pairB k.lv a).take q).map fun b => [a, b]) = x := ⟨_, rfl⟩
                have HNx := Lib.hid (show (pre ++ ((pairB k.lv a).take (q + 1)).map fun b => [a, b]) = LL ++ [[a, b]] from by
                  rw [← hLL, show (pairB k.lv a).take (q + 1) = (pairB k.lv a).take q ++ [b] from by rw [List.take_add_one, hbq]; rfl, List.map_append, List.append_assoc]
                  rfl)
                have HLb := Lib.hid (show LL.length ≤ 10000000000 from by
                  rw [← hLL, List.length_append, List.length_map, List.length_take]
                  have := HPl.out; have := HR65.out
                  omega)
                have hb1 := below_new (w := wr) (.cells #[.int .i64 a, .int .i64 b] 3)
                have hn1 := World.alloc_heap_new wr (.cells #[.int .i64 a, .int .i64 b] 3)
                have hb2 := below_new (w := wr.alloc (.cells #[.int .i64 a, .int .i64 b] 3)) (.cells #[.slice (some ⟨wr.heap.size, 0, none⟩) 2 2] 22)
                have hn2 := World.alloc_heap_new (wr.alloc (.cells #[.int .i64 a, .int .i64 b] 3)) (.cells #[.slice (some ⟨wr.heap.size, 0, none⟩) 2 2] 22)
                have HZ1 := Lib.hid (show ((wr.alloc (.cells #[.int .i64 a, .int .i64 b] 3)).alloc (.cells #[.slice (some ⟨wr.heap.size, 0, none⟩) 2 2] 22)).heap.size = wr.heap.size + 1 + 1 from by simp)
                have HN1 := Lib.hid ((hb2.block _ (by simp)).trans hn1)
                have HN2 := Lib.hid (show ((wr.alloc (.cells #[.int .i64 a, .int .i64 b] 3)).alloc (.cells #[.slice (some ⟨wr.heap.size, 0, none⟩) 2 2] 22)).heap[wr.heap.size + 1]? = some (.cells #[.slice (some ⟨wr.heap.size, 0, none⟩) 2 2] 22) from by simpa using hn2)
                have HB12 := Lib.hid (hb1.trans (hb2.mono hb1.size))
                have HO2 := Lib.hid (show SlI w3 LL vals (.slice Ao no co) ((wr.alloc (.cells #[.int .i64 a, .int .i64 b] 3)).alloc (.cells #[.slice (some ⟨wr.heap.size, 0, none⟩) 2 2] 22)) from by rw [← hLL]; exact HO.out.step HB12.out)
                have HLt := Lib.hid (fun g (e : Value.ownBlock (.slice Ao no co) = some g) => (HO.out.lt e).2)
                have HHr := Lib.hid (show ∀ g, Value.ownBlock (.slice (some ⟨wr.heap.size, 0, none⟩) 2 2) = some g → Value.ownBlock (.slice Ao no co) ≠ some g ∧ g < ((wr.alloc (.cells #[.int .i64 a, .int .i64 b] 3)).alloc (.cells #[.slice (some ⟨wr.heap.size, 0, none⟩) 2 2] 22)).heap.size from fun g e => by
                  have h2 : wr.heap.size = g := by simpa [Value.ownBlock] using e
                  have hz := HZ1.out
                  refine ⟨fun e2 => ?_, by omega⟩
                  have h1 := HLt.out g e2
                  omega)
                clear hbq hLL hb1 hn1 hb2 hn2
                go_wp2_with (at_builtin; refine wpList_app_sl2 rfl _ _ rfl rfl HO2.out (wr.heap.size + 1) (by first | rfl | simp) HN2.out rfl (pair_sl HN1.out) HHr.out HLb.out ?_; intro v6 w6 hO6 hg6 hl6; obtain ⟨A6, c6, e6⟩ := hO6.sl.form; have HO6 := Lib.hid hO6; have HG6 := Lib.hid (And.intro hg6 hl6); subst e6; clear hO6 hg6 hl6)
                go_roundw
                case rel =>
                  refine ⟨q + 1, _, _, _, _, by go_num, rfl, by omega, ?_, fun g e => ?_, by rw [HNx.out]; first | exact HO6.out | (have h := HO6.out; rw [List.length_append, List.length_singleton] at h; exact h)⟩
                  · have h1 := (HRi.out.1.step HB12.out)
                    exact (h1.keepOwn fun p hp => World.cell?_of_block (HG6.out.1.block _ (by
                      have := (HRi.out.2 _ hp).2
                      have := HZ1.out
                      omega) fun e => (HRi.out.2 _ hp).1 e.symm)).mono HG6.out.1.size
                  · have h1 := HRi.out.2 g e
                    have hs := HG6.out.1.size
                    have hz := HZ1.out
                    refine ⟨?_, by omega⟩
                    rcases HG6.out.2 with e2 | e2 <;> rw [List.length_append, List.length_singleton] at e2
                    · exact fun e3 => h1.1 (e2.symm.trans e3)
                    · intro e3
                      have e4 := e2.symm.trans e3
                      injection e4 with e4
                      omega
                case measure => simp [intOf]; omega
              · obtain rfl : nR = q := by omega
                go_wp2_with fail
                go_roundw
                case rel =>
                  refine ⟨p + 1, vals, Ao, no, co, by go_num, rfl, by omega, ?_⟩
                  rw [HFl.out]
                  have h := HO.out
                  rw [List.take_of_length_le (by have := HNR.out; omega)] at h
                  exact h
                case measure => simp [intOf]; omega
          · obtain rfl : nK = p := by omega
            have HFo := Lib.hid (show ((keysB k.lv).take nK).flatMap (fun a => (pairB k.lv a).map fun b => [a, b]) = cl from by
              rw [HF.out, List.take_of_length_le (by have := HNK.out; omega)]; rfl)
            go_wp2_with fail
            go_ret2
            exact ⟨⟨_, rfl, by rw [← HFo.out]; exact HO.out.sl⟩, HB1.out.trans ((HB3.out.trans (HO.out.bel.mono HB3.out.size)).mono HB1.out.size)⟩
end Go.Proofs.YthfegbcbpeedbaaGreatDoor
