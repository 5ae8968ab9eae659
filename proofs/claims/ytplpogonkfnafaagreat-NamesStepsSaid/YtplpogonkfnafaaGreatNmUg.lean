/- The reference's Steps. -/
import Derived.Test.YtplpogonkfnafaaGreatNmUf
import Derived.Test.YtplpogonkfnafaaGreatNmMt
namespace Go.Proofs.YtplpogonkfnafaaGreat
open Go.RowKit Go.Nm

structure SpI (V : World) (x : Int) (R : List Int) (F : Value → World → Prop) (vs : Value) (bk : Value) (vv : Value) (lv : Value) (iv : Value) (pp : Value) (wv : Value) (dn : Nat → Bool) (val : Nat → Value) (X : World) : Prop where
  s0 : dn 0 = true → val 0 = vs
  s1 : dn 1 = true → val 1 = bk
  s2 : dn 2 = true → val 2 = vv
  s3 : dn 3 = true → val 3 = lv
  s4 : dn 4 = true → val 4 = iv
  s5 : dn 5 = true → val 5 = pp
  s6 : dn 6 = true → val 6 = (.int .i64 x)
  s8 : dn 8 = true → val 8 = wv
  bel : dn 11 = false → Below V.heap.size V X
  e7 : dn 7 = true → dn 9 = false → ∃ g, val 7 = .slice (some ⟨g, 0, none⟩) 1 1 ∧ X.heap[g]? = some (.cells #[.int .i64 x] 3) ∧ V.heap.size ≤ g
  e9 : dn 9 = true → dn 11 = false → InW V.heap.size X X.heap.size (val 9) R ∧ ∃ A n c, val 9 = .slice A n c
  e10 : dn 10 = true → dn 11 = false → ∃ g, val 10 = .slice (some ⟨g, 0, none⟩) 1 1 ∧ X.heap[g]? = some (.cells #[val 9] 22)
  e11 : dn 11 = true → F (val 11) X
  e12 : dn 12 = true → val 12 = val 11
section
variable {V : World} {x : Int} {R : List Int} {F : Value → World → Prop} {vs : Value} {bk : Value} {vv : Value} {lv : Value} {iv : Value} {pp : Value} {wv : Value} {dn : Nat → Bool} {val : Nat → Value} {X Y : World}
theorem SpI.op0 (h : SpI V x R F vs bk vv lv iv pp wv dn val X) : SpI V x R F vs bk vv lv iv pp wv (andB dn 0) (updV val 0 (vs)) X :=
  ⟨(fun _ => rfl), h.s1, h.s2, h.s3, h.s4, h.s5, h.s6, h.s8, h.bel, h.e7, h.e9, h.e10, h.e11, h.e12⟩
theorem SpI.op1 (h : SpI V x R F vs bk vv lv iv pp wv dn val X) : SpI V x R F vs bk vv lv iv pp wv (andB dn 1) (updV val 1 (bk)) X :=
  ⟨h.s0, (fun _ => rfl), h.s2, h.s3, h.s4, h.s5, h.s6, h.s8, h.bel, h.e7, h.e9, h.e10, h.e11, h.e12⟩
theorem SpI.op2 (h : SpI V x R F vs bk vv lv iv pp wv dn val X) : SpI V x R F vs bk vv lv iv pp wv (andB dn 2) (updV val 2 (vv)) X :=
  ⟨h.s0, h.s1, (fun _ => rfl), h.s3, h.s4, h.s5, h.s6, h.s8, h.bel, h.e7, h.e9, h.e10, h.e11, h.e12⟩
theorem SpI.op3 (h : SpI V x R F vs bk vv lv iv pp wv dn val X) : SpI V x R F vs bk vv lv iv pp wv (andB dn 3) (updV val 3 (lv)) X :=
  ⟨h.s0, h.s1, h.s2, (fun _ => rfl), h.s4, h.s5, h.s6, h.s8, h.bel, h.e7, h.e9, h.e10, h.e11, h.e12⟩
theorem SpI.op4 (h : SpI V x R F vs bk vv lv iv pp wv dn val X) : SpI V x R F vs bk vv lv iv pp wv (andB dn 4) (updV val 4 (iv)) X :=
  ⟨h.s0, h.s1, h.s2, h.s3, (fun _ => rfl), h.s5, h.s6, h.s8, h.bel, h.e7, h.e9, h.e10, h.e11, h.e12⟩
theorem SpI.op5 (h : SpI V x R F vs bk vv lv iv pp wv dn val X) : SpI V x R F vs bk vv lv iv pp wv (andB dn 5) (updV val 5 (pp)) X :=
  ⟨h.s0, h.s1, h.s2, h.s3, h.s4, (fun _ => rfl), h.s6, h.s8, h.bel, h.e7, h.e9, h.e10, h.e11, h.e12⟩
theorem SpI.op6 (h : SpI V x R F vs bk vv lv iv pp wv dn val X) : SpI V x R F vs bk vv lv iv pp wv (andB dn 6) (updV val 6 ((.int .i64 x))) X :=
  ⟨h.s0, h.s1, h.s2, h.s3, h.s4, h.s5, (fun _ => rfl), h.s8, h.bel, h.e7, h.e9, h.e10, h.e11, h.e12⟩
theorem SpI.op8 (h : SpI V x R F vs bk vv lv iv pp wv dn val X) : SpI V x R F vs bk vv lv iv pp wv (andB dn 8) (updV val 8 (wv)) X :=
  ⟨h.s0, h.s1, h.s2, h.s3, h.s4, h.s5, h.s6, (fun _ => rfl), h.bel, h.e7, h.e9, h.e10, h.e11, h.e12⟩
theorem SpI.op7 (h : SpI V x R F vs bk vv lv iv pp wv dn val X) (n9 : dn 9 = false) (n10 : dn 10 = false) (n11 : dn 11 = false) : SpI V x R F vs bk vv lv iv pp wv (andB dn 7) (updV val 7 (.slice (some ⟨X.heap.size, 0, none⟩) 1 1)) (X.alloc (.cells #[.int .i64 x] 3)) :=
  ⟨h.s0, h.s1, h.s2, h.s3, h.s4, h.s5, h.s6, h.s8, (fun n => (h.bel n).trans ((below_new _).mono (h.bel n).size)), (fun _ _ => ⟨_, rfl, World.alloc_heap_new X _, (h.bel n11).size⟩), (fun d => f_t n9 d), (fun d => f_t n10 d), (fun d => f_t n11 d), h.e12⟩
theorem SpI.op9 (h : SpI V x R F vs bk vv lv iv pp wv dn val X) (n10 : dn 10 = false) (n11 : dn 11 = false) {u : Value} (hb : Below X.heap.size X Y) (hu : InW V.heap.size Y Y.heap.size u R) (hf : ∃ A n c, u = .slice A n c) : SpI V x R F vs bk vv lv iv pp wv (andB dn 9) (updV val 9 (u)) (Y) :=
  ⟨h.s0, h.s1, h.s2, h.s3, h.s4, h.s5, h.s6, h.s8, (fun n => (h.bel n).trans (hb.mono (h.bel n).size)), (fun _ n => nomatch n), (fun _ _ => ⟨hu, hf⟩), (fun d => f_t n10 d), (fun d => f_t n11 d), h.e12⟩
theorem SpI.op10 (h : SpI V x R F vs bk vv lv iv pp wv dn val X) (y9 : dn 9 = true) (n11 : dn 11 = false) : SpI V x R F vs bk vv lv iv pp wv (andB dn 10) (updV val 10 (.slice (some ⟨X.heap.size, 0, none⟩) 1 1)) (X.alloc (.cells #[val 9] 22)) :=
  ⟨h.s0, h.s1, h.s2, h.s3, h.s4, h.s5, h.s6, h.s8, (fun n => (h.bel n).trans ((below_new _).mono (h.bel n).size)), (fun _ n => f_t n y9), (fun d n => ⟨(h.e9 d n).1.step (below_new _), (h.e9 d n).2⟩), (fun _ _ => ⟨_, rfl, World.alloc_heap_new X _⟩), (fun d => f_t n11 d), h.e12⟩
theorem SpI.op11 (h : SpI V x R F vs bk vv lv iv pp wv dn val X) (y9 : dn 9 = true) (n12 : dn 12 = false) {u : Value} (hF : F u Y) : SpI V x R F vs bk vv lv iv pp wv (andB dn 11) (updV val 11 (u)) (Y) :=
  ⟨h.s0, h.s1, h.s2, h.s3, h.s4, h.s5, h.s6, h.s8, (fun n => nomatch n), (fun _ n => f_t n y9), (fun _ n => nomatch n), (fun _ n => nomatch n), (fun _ => hF), (fun d => f_t n12 d)⟩
theorem SpI.op12 (h : SpI V x R F vs bk vv lv iv pp wv dn val X)  : SpI V x R F vs bk vv lv iv pp wv (andB dn 12) (updV val 12 (val 11)) (X) :=
  ⟨h.s0, h.s1, h.s2, h.s3, h.s4, h.s5, h.s6, h.s8, h.bel, h.e7, h.e9, h.e10, h.e11, (fun _ => rfl)⟩
end

set_option maxRecDepth 100000 in
set_option maxHeartbeats 16000000 in
theorem rSteps_any (v vc : Value) (b : Bk) (n m : Int) (w : World) (hv : BkV w v b vc) (hs : Sm b) :
    Calls Tryz.prog 8 #[v, .int .i64 n, .int .i64 m] w (OutV (stepsOut b n m).1 (stepsOut b n m).2 w) := by
  obtain ⟨A1, c1, A2, c2, W0, rfl, rfl, hW0, hb0, hB0, hx⟩ := bk_box hv
  have HB0 := Lib.hid hb0
  have HX := Lib.hid hx
  have HW0 := Lib.hid hW0
  have HS := Lib.hid hs
  have HBk := Lib.hid hB0
  have HVe := Lib.hid (rversions_any _ _ b n m W0 hB0 hs)
  have HM := Lib.hid (show stepsOut b n m = if openE b [n, m] = 0 then (stF b n.toNat m.toNat, 0) else ([], openE b [n, m]) from rfl)
  have HZ := Lib.hid (openE_val (b := b) (V := [n, m]))
  generalize stepsOut b n m = o at *
  obtain ⟨oR, oE⟩ := o
  dsimp only
  generalize openE b [n, m] = er at *
  clear hv hb0 hx hW0 hs hB0
  obtain ⟨k0, k1⟩ := HX.out W0 (Below.refl _ _)
  go_enter Tryz.func8, Tryz.ntmps8
  go_wp2_with fail
  rw [HW0.out]
  (with_reducible refine HVe.out.mono ?_)
  rintro e w1 ⟨rfl, hb⟩
  have HB1 := Lib.hid hb
  clear hb k0 k1 HVe
  obtain ⟨k0, k1⟩ := HX.out w1 HB1.out
  by_cases he : er = 0
  case neg =>
    have hM := HM.out
    rw [if_neg he] at hM
    injection hM with hM1 hM2
    subst hM2
    subst hM1
    have hb2 : (oE != 0) = true := by simpa using he
    clear HZ HM
    go_wp2_with fail
    go_ret2
    exact OutV.nil (HB0.out.trans (HB1.out.mono HB0.out.size))
  case pos =>
  subst he
  obtain ⟨hval, hV⟩ := HZ.out rfl
  have hn := hV n (by simp)
  have hm := hV m (by simp)
  rw [val_len hval] at hn hm
  obtain ⟨k, rfl⟩ : ∃ k : Nat, n = (k : Int) := ⟨n.toNat, by omega⟩
  obtain ⟨j, rfl⟩ : ∃ j : Nat, m = (j : Int) := ⟨m.toNat, by omega⟩
  have hk : k ≤ b.chs.length := by omega
  have hj : j ≤ b.chs.length := by omega
  rw [if_pos rfl, Int.toNat_natCast, Int.toNat_natCast] at HM
  have hM := HM.out
  injection hM with hM1 hM2
  subst hM2
  obtain ⟨L, hL, hLi, hLl⟩ := vers_at hval hk
  have hR : oR = L.map fun x => mns b.chs k [x] j := by rw [hM1]; unfold stF; rw [List.getD_eq_getElem?_getD, hL]; rfl
  subst hR
  have hVe := rVersion_any _ _ b k w1 (HBk.out.step HB1.out) HS.out hval.1 hk
  rw [rver_getD hval hk hL] at hVe
  have HVn := Lib.hid hVe
  have HMe := Lib.hid (fun x (hx : x ∈ L) (u : Value) (B : Nat) Y (h : Below W0.heap.size W0 Y) (hB : B ≤ Y.heap.size) (hu : InW B Y Y.heap.size u [x]) => rmean_new _ _ u b [x] k j Y (HBk.out.step h) HS.out hval hk hj L hL (by simp [Inc]) (by simp; exact hx) B hB hu)
  have HNe := Lib.hid (fun x (hx : x ∈ L) => show mns b.chs k [x] j ≠ [] from fun e => by obtain ⟨z, hz⟩ := mns_some hval hL hx hk hj; rw [e] at hz; cases hz)
  obtain ⟨nL, hnL⟩ : ∃ nL, L.length = nL := ⟨_, rfl⟩
  have HNl := Lib.hid hnL
  have hnl4 : nL ≤ 400 := by omega
  clear HM hM1 HZ hV hn hm hval hk hj hL hLi hLl hVe hnL
  go_wp2_with fail
  (with_reducible refine HVn.out.mono ?_)
  rintro e w2 ⟨⟨lv, rfl, hl⟩, hb⟩
  have HB2 := Lib.hid (HB1.out.trans (hb.mono HB1.out.size))
  obtain ⟨Al, cl, rfl, _⟩ := hl.form
  have HIn := Lib.hid (show InA w2 w2.heap.size Al L from by obtain ⟨_, _, e, _, _, h⟩ := hl; cases e; exact h)
  rw [HNl.out]
  clear k0 k1 hb hl HVn
  go_wp2_with fail
  go_loopw [10, 11] (fun ov iv wr => ∃ (i : Nat) (vals : List Value), iv = .int .i64 (i : Int) ∧ i ≤ nL ∧ SlI w2 ((L.take i).map fun x => mns b.chs k [x] j) vals ov wr) (fun _ iv _ => nL - (intOf iv).toNat)
  case atStart => exact ⟨0, [], rfl, by omega, SlI.start _⟩
  case round =>
    obtain ⟨i, vals, rfl, hin, hS⟩ := hrel
    have HSl := Lib.hid hS
    clear hS
    have HBr := Lib.hid (HB2.out.trans (HSl.out.bel.mono HB2.out.size))
    by_cases hlt : i < nL
    · obtain ⟨x, ad, hx, rfl, hbd, hcx0⟩ := HIn.out.at_ HNl.out hlt
      have HCx := Lib.hid (fun Y (h : Below w2.heap.size w2 Y) => (h.cell (p := ad.add i) (by rw [add_block]; exact hbd)).trans hcx0)
      have HN := Lib.hid (mapM_next (f := fun x => mns b.chs k [x] j) hx)
      have HMx := Lib.hid (HMe.out x (List.mem_of_getElem? hx))
      have HLl := Lib.hid (show ((L.take i).map fun x => mns b.chs k [x] j).length ≤ 100000 from by rw [List.length_map, List.length_take]; omega)
      have HMn := Lib.hid (HNe.out x (List.mem_of_getElem? hx))
      obtain ⟨R, hR⟩ : ∃ R, mns b.chs k [x] j = R := ⟨_, rfl⟩
      rw [hR] at HN HMx HMn
      obtain ⟨LL, hLL⟩ : ∃ LL, (L.take i).map (fun x => mns b.chs k [x] j) = LL := ⟨_, rfl⟩
      rw [hLL] at HN HSl HLl
      clear hx hbd hcx0 hR hLL
      have hli : i < nL := hlt
      go_wp2_with fail
      refine wp_opaque ?_
      intro t0 ht0
      have hsz0 : t0.size = 41 := by rw [ht0]; rfl
      have t1 : t0.getD 1 undef = .int .i64 (k : Int) := by rw [ht0]; rfl
      have t2 : t0.getD 2 undef = .int .i64 (j : Int) := by rw [ht0]; rfl
      have t3 : t0.getD 3 undef = .pointer (some ⟨w.heap.size, 0, none⟩) := by rw [ht0]; rfl
      have t9 : t0.getD 9 undef = .slice (some ad) nL cl := by rw [ht0]; rfl
      have t10 : t0.getD 10 undef = u10 := by rw [ht0]; rfl
      have t11 : t0.getD 11 undef = .int .i64 (i : Int) := by rw [ht0]; rfl
      have HT0 := Lib.hid ht0
      clear ht0
      refine wp_region_vals [some 28, some 29, some 30, some 31, some 32, some 33, some 34, some 35, some 36, some 37, some 38, some 39, some 10] (SpI wr.drew x R (fun u X => ∃ vals', SlI w2 (LL ++ [R]) vals' u X) u10 (.agg #[.slice A1 b.first.length c1, .slice A2 b.chs.length c2]) (.int .i64 (k : Int)) (.slice (some ad) nL cl) (.int .i64 (i : Int)) (.pointer (some (ad.add i))) (.int .i64 (j : Int))) (by kernel_rfl) (by kernel_rfl) rfl rfl (by simp [hsz0]) (by kernel_rfl) ?_ ?_ ?_
      · intro val
        exact ⟨(fun h => nomatch h), (fun h => nomatch h), (fun h => nomatch h), (fun h => nomatch h), (fun h => nomatch h), (fun h => nomatch h), (fun h => nomatch h), (fun h => nomatch h), fun _ => Below.refl _ _, (fun h => nomatch h), (fun h => nomatch h), (fun h => nomatch h), (fun h => nomatch h), (fun h => nomatch h)⟩
      · intro dn q o hi hd hp hc val X a ha hn hI K hK
        have hq : q < 13 := by
          have := (Array.getElem?_eq_some_iff.1 hi).1
          simpa using this
        have c9 : dn 9 = true → dn 1 = true ∧ dn 2 = true ∧ dn 7 = true ∧ dn 8 = true := fun h => ⟨hc 9 _ rfl h ⟨1, .data⟩ (by simp) rfl, hc 9 _ rfl h ⟨2, .data⟩ (by simp) rfl, hc 9 _ rfl h ⟨7, .data⟩ (by simp) rfl, hc 9 _ rfl h ⟨8, .data⟩ (by simp) rfl⟩
        have c7 : dn 7 = true → dn 6 = true := fun h => hc 7 _ rfl h ⟨6, .data⟩ (by simp) rfl
        have c10 : dn 10 = true → dn 9 = true := fun h => hc 10 _ rfl h ⟨9, .data⟩ (by simp) rfl
        have c11 : dn 11 = true → dn 0 = true ∧ dn 10 = true := fun h => ⟨hc 11 _ rfl h ⟨0, .data⟩ (by simp) rfl, hc 11 _ rfl h ⟨10, .data⟩ (by simp) rfl⟩
        have c12 : dn 12 = true → dn 11 = true := fun h => hc 12 _ rfl h ⟨11, .data⟩ (by simp) rfl
        have bf : ∀ {q : Bool}, (q = true → False) → q = false := fun {q} h => by cases q; rfl; exact (h rfl).elim
        have hb3 : dn 11 = false → Below wr.heap.size wr X := fun n11 => (Below.refl _ _).drew.trans (hI.bel n11)
        rcases (show q = 0 ∨ q = 1 ∨ q = 2 ∨ q = 3 ∨ q = 4 ∨ q = 5 ∨ q = 6 ∨ q = 7 ∨ q = 8 ∨ q = 9 ∨ q = 10 ∨ q = 11 ∨ q = 12 by omega) with rfl | rfl | rfl | rfl | rfl | rfl | rfl | rfl | rfl | rfl | rfl | rfl | rfl
        · obtain rfl := Option.some.inj hi
          have n12 : dn 12 = false := bf fun h => f_t hd (c11 (c12 h)).1
          exact opMove 10 _ rfl (((ha 10).trans (hn 12 10 n12 rfl)).trans t10) (hK _ _ hI.op0)
        · obtain rfl := Option.some.inj hi
          have n11 : dn 11 = false := bf fun h => f_t hd (c9 (c10 (c11 h).2)).1
          obtain ⟨e0, e1⟩ := HX.out X (HBr.out.trans ((hb3 n11).mono HBr.out.size))
          exact opLdB 3 _ _ _ rfl ((ha 3).trans t3) e0 e1 (hK _ _ hI.op1)
        · obtain rfl := Option.some.inj hi
          exact opMove 1 _ rfl ((ha 1).trans t1) (hK _ _ hI.op2)
        · obtain rfl := Option.some.inj hi
          exact opMove 9 _ rfl ((ha 9).trans t9) (hK _ _ hI.op3)
        · obtain rfl := Option.some.inj hi
          exact opMove 11 _ rfl ((ha 11).trans t11) (hK _ _ hI.op4)
        · obtain rfl := Option.some.inj hi
          have y3 := hp ⟨3, .data⟩ (by simp) rfl
          have y4 := hp ⟨4, .data⟩ (by simp) rfl
          exact opIx 31 32 nL cl i ad rfl ((ha 31).trans (hI.s3 y3)) ((ha 32).trans (hI.s4 y4)) hli (hK _ _ hI.op5)
        · obtain rfl := Option.some.inj hi
          have y5 := hp ⟨5, .data⟩ (by simp) rfl
          have n11 : dn 11 = false := bf fun h => f_t hd (c7 (c9 (c10 (c11 h).2)).2.2.1)
          exact opLd 33 _ _ rfl ((ha 33).trans (hI.s5 y5)) (HCx.out X (HSl.out.bel.trans ((hb3 n11).mono HSl.out.bel.size))) (hK _ _ hI.op6)
        · obtain rfl := Option.some.inj hi
          have y6 := hp ⟨6, .data⟩ (by simp) rfl
          have n9 : dn 9 = false := bf fun h => f_t hd (c9 h).2.2.1
          have n10 : dn 10 = false := bf fun h => f_t n9 (c10 h)
          have n11 : dn 11 = false := bf fun h => f_t n10 (c11 h).2
          exact opBox 34 x rfl ((ha 34).trans (hI.s6 y6)) (hK _ _ (hI.op7 n9 n10 n11))
        · obtain rfl := Option.some.inj hi
          exact opMove 2 _ rfl ((ha 2).trans t2) (hK _ _ hI.op8)
        · obtain rfl := Option.some.inj hi
          have y1 := hp ⟨1, .data⟩ (by simp) rfl
          have y2 := hp ⟨2, .data⟩ (by simp) rfl
          have y7 := hp ⟨7, .data⟩ (by simp) rfl
          have y8 := hp ⟨8, .data⟩ (by simp) rfl
          have n10 : dn 10 = false := bf fun h => f_t hd (c10 h)
          have n11 : dn 11 = false := bf fun h => f_t n10 (c11 h).2
          obtain ⟨gb, hv1, hv2, hv3⟩ := hI.e7 y7 hd
          have hbX := HBr.out.trans ((hb3 n11).mono HBr.out.size)
          refine opCallM 29 30 35 36 _ _ _ _ _ rfl ((ha 29).trans (hI.s1 y1)) ((ha 30).trans (hI.s2 y2)) ((ha 35).trans hv1) ((ha 36).trans (hI.s8 y8)) (HMx.out _ wr.drew.heap.size X hbX (hI.bel n11).size ⟨box_sl hv2, fun g e => by
            have : gb = g := by simpa [Value.ownBlock] using e
            omega⟩) ?_
          rintro e Y ⟨⟨u, rfl, hu⟩, hb⟩
          obtain ⟨A7, c7', hf, _⟩ := hu.form
          exact ⟨_, rfl, hK _ _ (hI.op9 n10 n11 hb hu ⟨A7, _, c7', hf⟩)⟩
        · obtain rfl := Option.some.inj hi
          have y9 := hp ⟨9, .data⟩ (by simp) rfl
          have n11 : dn 11 = false := bf fun h => f_t hd (c11 h).2
          obtain ⟨A7, n7, c7', hf⟩ := (hI.e9 y9 n11).2
          have h10 := hI.op10 y9 n11
          rw [hf] at h10
          exact opBoxS 37 A7 n7 c7' rfl ((ha 37).trans hf) (hK _ _ h10)
        · obtain rfl := Option.some.inj hi
          have y0 := hp ⟨0, .data⟩ (by simp) rfl
          have y10 := hp ⟨10, .data⟩ (by simp) rfl
          obtain ⟨gb, hv1, hv2⟩ := hI.e10 y10 hd
          obtain ⟨h9, A7, n7, c7', hf⟩ := hI.e9 (c10 y10) hd
          have hSX := HSl.out.step (hb3 hd)
          refine run_append_sl (.tmp 28) (.tmp 38) rfl ((ha 28).trans (hI.s0 y0)) hSX gb ((ha 38).trans hv1) hv2 (by rw [hf]; rfl) h9.sl (fun g e => ⟨fun e2 => ?_, h9.sl.ownLt HMn.out e⟩) HLl.out (fun v' w' h1 _ _ => hK _ _ (hI.op11 (c10 y10) (bf fun h => f_t hd (c12 h)) ⟨_, h1⟩))
          have h1 := h9.own g e
          have h2 := (HSl.out.lt e2).2
          have h3 : wr.drew.heap.size = wr.heap.size := rfl
          omega
        · obtain rfl := Option.some.inj hi
          exact opAssign 39 _ rfl (ha 39) (hK _ _ hI.op12)
      · intro dn val X hdn hI
        obtain ⟨vals', hS5⟩ := hI.e11 (hdn 11 (by simp))
        have HS5 := Lib.hid hS5
        have e12 := hI.e12 (hdn 12 (by simp))
        clear hdn hI hS5
        simp only [wrS, HT0.out, e12]
        simp only [List.setIfInBounds_toArray, List.set_cons_succ, List.set_cons_zero]
        simp only [Exit.inBlock, Exit.then]
        clear t1 t2 t3 t9 t10 t11 hsz0 HT0 e12
        go_wp2_with fail
        go_roundw
        case rel => exact ⟨i + 1, vals', by go_num, by omega, by rw [HN.out]; exact HS5.out⟩
        case measure => simp [intOf]; omega
    · have hE : (L.take i).map (fun x => mns b.chs k [x] j) = L.map fun x => mns b.chs k [x] j := by rw [List.take_of_length_le (by have := HNl.out; omega)]
      have HF := Lib.hid (show VsSl wr wr.heap.size u10 (L.map fun x => mns b.chs k [x] j) from by rw [← hE]; exact HSl.out.sl)
      go_wp2_with fail
      go_ret2
      exact ⟨⟨_, rfl, HF.out⟩, HB0.out.trans (HBr.out.mono HB0.out.size)⟩
end Go.Proofs.YtplpogonkfnafaaGreat
