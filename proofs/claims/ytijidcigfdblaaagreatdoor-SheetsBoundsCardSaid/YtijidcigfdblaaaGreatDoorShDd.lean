/- Doubts: the program. -/
import Derived.Test.YtijidcigfdblaaaGreatDoorShDc
import Derived.Test.YtijidcigfdblaaaGreatDoorShTd
namespace Go.Sh
def kqF (a b c : Bool) (q : Int) : List Int := (if q ≤ 1 ∧ a = true then [1] else []) ++ (if q ≤ 2 ∧ b = true then [2] else []) ++ (if q ≤ 3 ∧ c = true then [3] else [])
theorem kq_1 (a b c : Bool) : kqF a b c 1 = kindsF a b c := by unfold kqF kindsF; simp
theorem kq_next (a b c : Bool) {q : Int} (h1 : 1 ≤ q) (h4 : q ≤ 4) : (nxF a b c q = 0 ∧ kqF a b c q = []) ∨ (q ≤ nxF a b c q ∧ nxF a b c q ≤ 3 ∧ kqF a b c q = nxF a b c q :: kqF a b c (nxF a b c q + 1)) := by
  have : q = 1 ∨ q = 2 ∨ q = 3 ∨ q = 4 := by omega
  rcases this with rfl | rfl | rfl | rfl <;> cases a <;> cases b <;> cases c <;> first | exact .inl ⟨rfl, rfl⟩ | exact .inr ⟨by decide, by decide, rfl⟩
end Go.Sh
namespace Go.Proofs.YtijidcigfdblaaaGreatDoor
open Go.RowKit Go.Nm Go.Sh Go.Plc

theorem infoDb : (Tryz.prog.info? 87).map (fun i => (i.zero, i.size, i.bytes)) = some (some (.agg #[.int .i64 0, .int .i64 0, .int .i64 0]), 3, 24) := by kernel_rfl
def dbC (L : List (Int × Int × Int)) : List Value := L.flatMap fun z => [.int .i64 z.1, .int .i64 z.2.1, .int .i64 z.2.2]
theorem dbC_app (L M : List (Int × Int × Int)) : dbC (L ++ M) = dbC L ++ dbC M := by unfold dbC; rw [List.flatMap_append]
theorem dbC_len (L : List (Int × Int × Int)) : (dbC L).length = L.length * 3 := by
  unfold dbC
  induction L with
  | nil => rfl
  | cons z L ih => rw [List.flatMap_cons, List.length_append, ih, List.length_cons]; simp; omega
/-- doubts of the call's own -/
structure DbI (W : World) (L : List (Int × Int × Int)) (v : Value) (X : World) : Prop where
  bel : Below W.heap.size W X
  own : X.ownsRow W.heap.size 87 3 v L.length (dbC L)
theorem DbI.step {W X Y : World} {L : List (Int × Int × Int)} {v : Value} (h : DbI W L v X) (hb : Below X.heap.size X Y) : DbI W L v Y := ⟨h.bel.trans (hb.mono h.bel.size), own_step h.own hb⟩
theorem not_box_own {X : World} {B n sz lb : Nat} {e t : TypeId} {v : Value} {xs : List Value} {cs : Array Value} (h : X.ownsRow B e sz v n xs) (hl : X.heap[lb]? = some (.cells cs t)) (he : e ≠ t) : some lb ≠ v.ownBlock := by
  rcases h.2 with ⟨e1, _⟩ | ⟨g, cap, cur, e1, _, hg, _⟩
  · rw [e1]; exact fun h => nomatch h
  · intro e2
    rw [e1] at e2
    injection e2 with e2
    rw [e2] at hl
    have e3 := hg.symm.trans hl
    injection e3 with e3
    injection e3 with _ e4 _
    exact he e4
theorem cells_db {w : World} {g : Nat} {a b c : Int} {t : TypeId} (h : w.heap[g]? = some (.cells #[.int .i64 a, .int .i64 b, .int .i64 c] t)) : ∀ j u, ([.int .i64 a, .int .i64 b, .int .i64 c] : List Value)[j]? = some u → w.cell? ((⟨g, 0, none⟩ : Addr).add j) = some u := by
  intro j u hj
  rw [add_zeroB]
  simpa [World.cell?, h] using hj
theorem ix_at {l : List Rl} {n : Int} {a : Nat} (h : ixF (rlN l) n = some a) : ∃ r, l[a]? = some r ∧ r.nm = n := by
  unfold ixF at h
  rw [List.findIdx?_eq_some_iff_getElem] at h
  obtain ⟨h1, h2, _⟩ := h
  have h3 : a < l.length := by unfold rlN at h1; rwa [List.length_map] at h1
  have h4 : (rlN l)[a]? = some l[a].nm := by unfold rlN; rw [List.getElem?_map, List.getElem?_eq_getElem h3]; rfl
  have h5 := List.getElem?_eq_getElem h1
  rw [h4] at h5
  injection h5 with h5
  exact ⟨l[a], List.getElem?_eq_getElem h3, h5.trans (of_decide_eq_true h2)⟩
theorem own_low {X : World} {B B' n sz : Nat} {e : TypeId} {v : Value} {xs : List Value} (h : X.ownsRow B e sz v n xs) (hB : B' ≤ B) : X.ownsRow B' e sz v n xs :=
  ⟨h.1, h.2.imp id fun ⟨g, cap, cur, e1, hb, rest⟩ => ⟨g, cap, cur, e1, Nat.le_trans hB hb, rest⟩⟩
theorem kinds_len (a b c : Bool) : (kindsF a b c).length ≤ 3 := by cases a <;> cases b <;> cases c <;> decide
theorem lnD_len (l : List Rl) (p : Pg) (i : Nat) (x : Ln) : (lnD l p i x).length ≤ 3 := by
  unfold lnD
  split
  · simp
  · split
    · simp
    · rw [List.length_map]; exact kinds_len _ _ _
theorem dbTo_len (l : List Rl) (p : Pg) : ∀ i, (dbTo l p i).length ≤ 3 * i
  | 0 => by simp [dbTo]
  | i + 1 => by
    have ih := dbTo_len l p i
    cases hx : p.ls[i]? with
    | none =>
      have hle : p.ls.length ≤ i := List.getElem?_eq_none_iff.1 hx
      unfold dbTo at ih ⊢
      rw [List.take_of_length_le (by omega)]
      rw [List.take_of_length_le hle] at ih
      omega
    | some x =>
      have := lnD_len l p i x
      rw [db_next hx, List.length_append]; omega
set_option maxRecDepth 100000 in
set_option maxHeartbeats 16000000 in
theorem Doubts_any (vr : Value) (L : List Rl) (v : Value) (p : Pg) (w : World) (hv : PgV w v p) (hp : PgSm p) (hr : RlSl w w.heap.size vr L) (hrl : L.length ≤ 1000000) (hrg : ∀ r ∈ L, r.rg.length ≤ 1000000 ∧ i64B r.fr ∧ i64B r.to) (hG : GlO w) :
    Calls Tryz.prog 50 #[vr, v] w fun e w' => ∃ u, e = .returned (.tuple #[u, .int .i64 (dbE L p)]) ∧ DbI w (dbF L p) u w' := by
  have hv0 := hv
  obtain ⟨A, c, W0, rfl, hW0, hb0, hz, hV, hL, hC⟩ := pg_box hv
  have hl0 : LnSl w w.heap.size (.slice A p.ls.length c) p.ls := by
    obtain ⟨vl, e, h⟩ := hv0
    have e2 : Value.slice A p.ls.length c = vl := by unfold pgV at e; simpa using e
    rw [e2]; exact h
  have hbox : W0.heap[w.heap.size]? = some (.cells (pgC p (.slice A p.ls.length c)) 28) := by rw [← hW0]; exact World.alloc_heap_new w _
  obtain ⟨Ar, cr, rfl⟩ := hr.form
  have HR := Lib.hid hr
  have HL0 := Lib.hid hl0
  have HW0 := Lib.hid hW0
  have HB0 := Lib.hid hb0
  have HG := Lib.hid hG
  have HRg := Lib.hid hrg
  have HCk := Lib.hid (CheckRules_any _ L W0 (hr.step hb0) hrl hrg (hG.below hb0))
  have HVa := Lib.hid (fun Y (h : Below W0.heap.size W0 Y) => isValid_any _ p Y ((hV W0 (Below.refl _ _)).step h) hp)
  have HBx := Lib.hid (fun Y (h : Below W0.heap.size W0 Y) => (h.block _ (Array.getElem?_eq_some_iff.1 hbox).1).trans hbox)
  obtain ⟨de, hde⟩ : ∃ x, dbE L p = x := ⟨_, rfl⟩
  have HDe := Lib.hid (show de = if rlsB L = true then (if okP p = true then 0 else 40) else 42 from hde.symm)
  have HDf := Lib.hid (show dbF L p = if de = 0 then dbTo L p p.ls.length else [] from by rw [← hde]; rfl)
  rw [hde]
  have HRe := Lib.hid (show rlsE L = if rlsB L = true then 0 else 42 from rfl)
  obtain ⟨n, hn⟩ : ∃ n, p.ls.length = n := ⟨_, rfl⟩
  have HNl := Lib.hid hn
  obtain ⟨m, hm⟩ : ∃ n, L.length = n := ⟨_, rfl⟩
  have HMl := Lib.hid hm
  obtain ⟨df, hdf⟩ : ∃ x, dbF L p = x := ⟨_, rfl⟩
  rw [hdf] at HDf ⊢
  obtain ⟨re, hre⟩ : ∃ x, rlsE L = x := ⟨_, rfl⟩
  rw [hre] at HCk HRe
  obtain ⟨ok, hok⟩ : ∃ x, okP p = x := ⟨_, rfl⟩
  have HOk := Lib.hid (fun h : ok = true => ok_iff.1 (hok.trans h))
  rw [hok] at HVa HDe
  rw [hn] at HW0 HL0 HBx HVa HDf ⊢
  rw [hm] at HR HCk ⊢
  rw [hm] at hrl
  unfold pgV at HVa ⊢
  unfold pgC at HW0
  clear hv hv0 hp hW0 hb0 hz hV hL hC hl0 hbox hG hr hrg hde hn hdf hre hok hm
  go_enter Tryz.func50, Tryz.ntmps50
  go_wp2_with fail
  rw [HW0.out]
  (try go_wp2_with fail)
  refine HCk.out.mono ?_
  rintro e w1 ⟨rfl, hb1⟩
  have HB1 := Lib.hid hb1
  have HBw1 := Lib.hid (HB0.out.trans (hb1.mono HB0.out.size))
  clear hb1 HCk
  by_cases hrb : rlsB L = true
  rotate_left
  · have HF := Lib.hid (show de = 42 from by rw [HDe.out, if_neg hrb])
    have HF2 := Lib.hid (show df = [] from by rw [HDf.out, HF.out]; rfl)
    have hre : re = 42 := by rw [HRe.out, if_neg hrb]
    subst hre
    clear hrb
    go_wp2_with fail
    go_ret2
    exact ⟨.slice none 0 0, by rw [HF.out]; rfl, HBw1.out, by rw [HF2.out]; exact World.ownsRow_nil _ _ _ _⟩
  · have hre : re = 0 := by rw [HRe.out, if_pos hrb]
    subst hre
    have HDe2 := Lib.hid (show de = if ok = true then 0 else 40 from by rw [HDe.out, if_pos hrb])
    have hInc : IncL (rlN L) := by
      unfold rlsB at hrb
      rw [Bool.and_eq_true, Bool.and_eq_true] at hrb
      exact (ids_inc hrb.1.2).2
    have hAll : ∀ r ∈ L, rlB r = true := by
      unfold rlsB at hrb
      rw [Bool.and_eq_true] at hrb
      exact fun r hr => List.all_eq_true.1 hrb.2 r hr
    have HInc := Lib.hid hInc
    have HAll := Lib.hid hAll
    obtain ⟨g0, g1, g2, g3, g4, g5, g6, g7, g8, g9⟩ := pg_cells (HBx.out w1 HB1.out)
    have HVa1 := Lib.hid (HVa.out w1 HB1.out)
    clear hrb hInc hAll HVa
    go_wp2_with fail
    refine HVa1.out.mono ?_
    rintro e w2 ⟨rfl, hb2⟩
    have HB2 := Lib.hid (HB1.out.trans (hb2.mono HB1.out.size))
    have HBw2 := Lib.hid (HBw1.out.trans (hb2.mono HBw1.out.size))
    clear hb2 HVa1 g0 g1 g2 g3 g4 g5 g6 g7 g8 g9
    cases ok with
    | false =>
      have HF := Lib.hid (show de = 40 from by rw [HDe2.out]; rfl)
      have HF2 := Lib.hid (show df = [] from by rw [HDf.out, HF.out]; rfl)
      go_wp2_with fail
      go_ret2
      exact ⟨.slice none 0 0, by rw [HF.out]; rfl, HBw2.out, by rw [HF2.out]; exact World.ownsRow_nil _ _ _ _⟩
    | true =>
      have HF := Lib.hid (show de = 0 from by rw [HDe2.out]; rfl)
      have HF2 := Lib.hid (show df = dbTo L p n from by rw [HDf.out, HF.out]; rfl)
      have HPk := Lib.hid (HOk.out rfl)
      have hn2 : n ≤ 200 := by have := HPk.out.len; rw [HNl.out] at this; exact this
      obtain ⟨_, _, _, _, _, _, _, _, _, g9⟩ := pg_cells (HBx.out w2 HB2.out)
      have HTl := Lib.hid (dbTo_len L p)
      clear HDe2 HDf HDe HRe
      go_wp2_with fail
      go_loopw [7, 24] (fun ov iv wr => ∃ i : Nat, iv = .int .i64 (i : Int) ∧ i ≤ n ∧ DbI w2 (dbTo L p i) ov wr) (fun _ iv _ => n - (intOf iv).toNat)
      case atStart => exact ⟨0, rfl, by omega, Below.refl _ _, World.ownsRow_nil _ _ _ _⟩
      case round =>
        obtain ⟨i, rfl, hin, hI⟩ := hrel
        have HI := Lib.hid hI
        have hBwr : Below w.heap.size w wr := HBw2.out.trans (hI.bel.mono HBw2.out.size)
        by_cases hlt : i < n
        · obtain ⟨x, ad, Ax, cx, hx, rfl, hY⟩ := HL0.out.at_ hlt
          obtain ⟨⟨l0, l1, l2, l3⟩, _⟩ := hY wr hBwr
          have hbn := below_new (w := wr) (.cells #[.int .i64 x.nm, .int .i64 x.lo, .int .i64 x.hi, .slice Ax x.sn.length cx] 83)
          have hnn := World.alloc_heap_new wr (.cells #[.int .i64 x.nm, .int .i64 x.lo, .int .i64 x.hi, .slice Ax x.sn.length cx] 83)
          obtain ⟨V, hV⟩ : ∃ V, wr.alloc (.cells #[.int .i64 x.nm, .int .i64 x.lo, .int .i64 x.hi, .slice Ax x.sn.length cx] 83) = V := ⟨_, rfl⟩
          rw [hV] at hbn hnn
          obtain ⟨m0, m1, m2, m3⟩ := cells_four hnn
          have HIV := Lib.hid (hI.step hbn)
          have HBV := Lib.hid (hBwr.trans (hbn.mono hBwr.size))
          have HNn := Lib.hid hnn
          have HNx := Lib.hid (db_next (l := L) hx)
          have HIx := Lib.hid (indexOf_any _ L x.nm V (HR.out.step HBV.out) (by rw [HMl.out]; exact hrl) HInc.out)
          clear hx hY hI hBwr hbn hnn g9
          go_wp2_with fail
          refine HIx.out.mono ?_
          rintro e w3 ⟨⟨a, f, rfl, haf⟩, hb3⟩
          have HI3 := Lib.hid (HIV.out.step hb3)
          have HBw3 := Lib.hid (HBV.out.trans (hb3.mono HBV.out.size))
          have HN3 := Lib.hid ((hb3.block _ (Array.getElem?_eq_some_iff.1 HNn.out).1).trans HNn.out)
          clear hb3 HIx m0 m1 m2 m3 l0 l1 l2 l3
          rcases haf with ⟨rfl, hix⟩ | ⟨rfl, hix⟩
          rotate_left
          · have HS := Lib.hid (show dbTo L p (i + 1) = dbTo L p i from by rw [HNx.out]; unfold lnD; rw [hix]; simp)
            clear hix
            go_wp2_with fail
            go_roundw
            case rel => exact ⟨i + 1, by go_num, by omega, by rw [HS.out]; exact HI3.out⟩
            case measure => simp [intOf]; omega
          · obtain ⟨r, hra, hrn⟩ := ix_at hix
            have ham : a < m := by have := (List.getElem?_eq_some_iff.1 hra).1; rw [HMl.out] at this; exact this
            obtain ⟨r', ad2, As, cs, hr', hA2, hY2⟩ := HR.out.at_ ham
            obtain rfl : r' = r := by rw [hra] at hr'; injection hr' with h; exact h.symm
            have hmem := List.mem_of_getElem? hra
            have hrl1 := HRg.out _ hmem
            obtain ⟨ka, hka⟩ : ∃ q, kdP r' (pgSq p) = q := ⟨_, rfl⟩
            obtain ⟨kb, hkb⟩ : ∃ q, kdS r' p.nt = q := ⟨_, rfl⟩
            obtain ⟨kc, hkc⟩ : ∃ q, kdM r' x.lo = q := ⟨_, rfl⟩
            have HS := Lib.hid (show dbTo L p (i + 1) = dbTo L p i ++ (kqF ka kb kc 1).map (fun q => ((i : Int), (a : Int), q)) from by
              rw [HNx.out]
              unfold lnD
              rw [hix]
              simp only
              rw [hra]
              simp only
              unfold lnK
              rw [hka, hkb, hkc, kq_1])
            have HNd := Lib.hid (fun (fr : Int) (Y : World) (h : Below w.heap.size w Y) => show Calls Tryz.prog 115 #[rlV r' (.slice As r'.rg.length cs), pgV p (.slice (some ad) n c), lnV x (.slice Ax x.sn.length cx), .int .i64 fr] Y fun e w' => e = .returned (.int .i64 (nxF ka kb kc fr)) ∧ Below Y.heap.size Y w' from by
              have h1 := nextDoubt_any r' As cs p (some ad) n c x Ax x.sn.length cx fr Y (hY2 Y h).2 hrl1.1 (HAll.out _ hmem) hrl1.2.1 hrl1.2.2 HPk.out (HG.out.below h)
              rw [hka, hkb, hkc] at h1
              exact h1)
            have HYr := Lib.hid (fun Y (h : Below w.heap.size w Y) => (hY2 Y h).1)
            have hA3 : Ar = some ad2 := hA2
            subst hA3
            have HBxw := Lib.hid (show ∀ Y, Below w2.heap.size w2 Y → PgC Y w.heap.size p (.slice (some ad) n c) from fun Y h => pg_cells (HBx.out Y (HB2.out.trans (h.mono HB2.out.size))))
            unfold rlV pgV lnV at HNd
            obtain ⟨r0, r1, r2, r3, r4⟩ := HYr.out w3 HBw3.out
            obtain ⟨g0, g1, g2, g3, g4, g5, g6, g7, g8, g9⟩ := HBxw.out w3 HI3.out.bel
            obtain ⟨d0, d1, d2, d3⟩ := cells_four HN3.out
            clear hix hra hrn hr' hY2 hmem hrl1 hka hkb hkc HNx
            go_wp2_with fail
            have ss := fun p => (⟨⟨Wb.cell r0 p, Wb.cell r1 p, Wb.cell r2 p, Wb.cell r3 p, Wb.cell r4 p⟩, ⟨Wb.cell g0 p, Wb.cell g1 p, Wb.cell g2 p, Wb.cell g3 p, Wb.cell g4 p, Wb.cell g5 p, Wb.cell g6 p, Wb.cell g7 p, Wb.cell g8 p, Wb.cell g9 p⟩, ⟨Wb.cell d0 p, Wb.cell d1 p, Wb.cell d2 p, Wb.cell d3 p⟩⟩ : (_ ∧ _ ∧ _ ∧ _ ∧ _) ∧ (_ ∧ _ ∧ _ ∧ _ ∧ _ ∧ _ ∧ _ ∧ _ ∧ _ ∧ _) ∧ (_ ∧ _ ∧ _ ∧ _))
            have HNp := Lib.hid (fun pp : Wb w3 => HNd.out 1 pp.v (HBw3.out.trans (pp.h.mono HBw3.out.size)))
            refine wp_region_wb (by kernel_rfl) (by kernel_rfl) ?_; (repeat ((with_reducible refine wpQuiet_step ?_); intro K hK; go_simp; (try (refine ite_neg_of (by simp [undef]) ?_)); first | (with_reducible refine hK _ ?_; clear hK K) | (apply Exists.intro; (with_reducible refine ⟨fun _ => ?_, hK _ ?_⟩); ((go_at_call 115; exact Calls.wb (HNp.out _))); clear hK K))); (with_reducible refine wpQuiet_nil ?_); rintro w1 ⟨⟨_, hb1⟩, rfl⟩; (try dsimp only)
            have HI4 := Lib.hid (HI3.out.step hb1)
            have HN4 := Lib.hid ((hb1.block _ (Array.getElem?_eq_some_iff.1 HN3.out).1).trans HN3.out)
            obtain ⟨k0, hk0⟩ : ∃ q, nxF ka kb kc 1 = q := ⟨_, rfl⟩
            have HK0 := Lib.hid hk0
            obtain ⟨i0, hi0, hz0, hz1, hz2⟩ := info_parts infoDb
            have HZ := Lib.hid (And.intro hi0 (And.intro hz0 (And.intro hz1 hz2)))
            have HTi := Lib.hid (HTl.out i)
            rw [hk0]
            clear hb1 ss r0 r1 r2 r3 r4 g0 g1 g2 g3 g4 g5 g6 g7 g8 g9 d0 d1 d2 d3 HNp hk0 hi0 hz0 hz1 hz2
            go_wp2_with fail
            go_loopw [7, 12] (fun ov kv wq => ∃ (q k : Int) (D : List (Int × Int × Int)), kv = .int .i64 k ∧ k = nxF ka kb kc q ∧ 1 ≤ q ∧ q ≤ 4 ∧ (D.length : Int) < q ∧ dbTo L p i ++ D ++ (kqF ka kb kc q).map (fun q => ((i : Int), (a : Int), q)) = dbTo L p (i + 1) ∧ DbI w2 (dbTo L p i ++ D) ov wq ∧ wq.heap[wr.heap.size]? = some (.cells #[.int .i64 x.nm, .int .i64 x.lo, .int .i64 x.hi, .slice Ax x.sn.length cx] 83)) (fun _ kv _ => if intOf kv = 0 then 0 else (4 - intOf kv).toNat)
            case atStart => exact ⟨1, k0, [], rfl, HK0.out.symm, by omega, by omega, by simp, by rw [List.append_nil]; exact HS.out.symm, by rw [List.append_nil]; exact HI4.out, HN4.out⟩
            case round =>
              obtain ⟨q, k, D, rfl, hk, hq1, hq4, hDl, hDD, hI5, hN5⟩ := hrel
              have HI5 := Lib.hid hI5
              have HN5 := Lib.hid hN5
              have HDD := Lib.hid hDD
              rcases kq_next ka kb kc hq1 hq4 with ⟨h1, h2⟩ | ⟨h1, h2, h3⟩
              · rw [← hk] at h1
                have HE := Lib.hid (show dbTo L p (i + 1) = dbTo L p i ++ D from by rw [← HDD.out, h2]; simp)
                subst h1
                clear hk hDD hI5 hN5 h2
                go_wp2_with fail
                go_roundw
                case rel => exact ⟨i + 1, by go_num, by omega, by rw [HE.out]; exact HI5.out⟩
                case measure => simp [intOf]; omega
              · rw [← hk] at h1 h2 h3
                have hk0 : (k == 0) = false := by simp; omega
                have hkw : IntKind.i64.wrap (k + 1) = k + 1 := by rw [IntKind.wrap_i64]; omega
                have HD2 := Lib.hid (show dbTo L p i ++ (D ++ [((i : Int), (a : Int), k)]) ++ (kqF ka kb kc (k + 1)).map (fun q => ((i : Int), (a : Int), q)) = dbTo L p (i + 1) from by rw [← HDD.out, h3]; simp)
                have HLn := Lib.hid (show (dbTo L p i ++ D).length ≤ 1000 from by rw [List.length_append]; have := HTi.out; omega)
                have hb2 := below_new (w := wr) (.cells #[.int .i64 (i : Int), .int .i64 (a : Int), .int .i64 k] 87)
                have hn2 := World.alloc_heap_new wr (.cells #[.int .i64 (i : Int), .int .i64 (a : Int), .int .i64 k] 87)
                obtain ⟨V2, hV2⟩ : ∃ V, wr.alloc (.cells #[.int .i64 (i : Int), .int .i64 (a : Int), .int .i64 k] 87) = V := ⟨_, rfl⟩
                rw [hV2] at hb2 hn2
                have HIv := Lib.hid (hI5.step hb2)
                have HNv := Lib.hid ((hb2.block _ (Array.getElem?_eq_some_iff.1 hN5).1).trans hN5)
                have HCd := Lib.hid (cells_db hn2)
                clear hDD hI5 hN5 hb2 hn2 hk
                go_wp2_with (at_builtin; refine wpList_append_own _ rfl _ _ 71 rfl w2.heap.size 87 i0 (.agg #[.int .i64 0, .int .i64 0, .int .i64 0]) 3 24 Tryz.underlying71 HZ.out.1 HZ.out.2.1 HZ.out.2.2.1 HZ.out.2.2.2 rfl (by decide) _ _ _ rfl HIv.out.own ⟨wr.heap.size, 0, none⟩ 1 1 [.int .i64 (i : Int), .int .i64 (a : Int), .int .i64 k] rfl rfl HCd.out (by intro u hu; simp at hu; rcases hu with rfl | rfl | rfl <;> rfl) (by unfold maxLen; have := HLn.out; omega) (by have := HLn.out; omega) HIv.out.bel.size ?_; intro v6 w6 ho6 hg6 _; refine Hid.out ?_)
                refine Lib.hid ?_
                have HI6 := Lib.hid (show DbI w2 (dbTo L p i ++ (D ++ [((i : Int), (a : Int), k)])) v6 w6 from ⟨HIv.out.bel.grown hg6 HIv.out.bel.size (fun r e => (HIv.out.own.lt r e).1), by
                  rw [← List.append_assoc, List.length_append, dbC_app]; exact ho6⟩)
                have HN6 := Lib.hid ((hg6.block _ (Array.getElem?_eq_some_iff.1 HNv.out).1 (not_box_own HIv.out.own HNv.out (by decide))).trans HNv.out)
                have HBw6 := Lib.hid (HBw2.out.trans (HI6.out.bel.mono HBw2.out.size))
                obtain ⟨r0, r1, r2, r3, r4⟩ := HYr.out w6 HBw6.out
                obtain ⟨g0, g1, g2, g3, g4, g5, g6, g7, g8, g9⟩ := HBxw.out w6 HI6.out.bel
                obtain ⟨d0, d1, d2, d3⟩ := cells_four HN6.out
                clear ho6 hg6 hV2
                go_wp2_with fail
                have ss := fun p => (⟨⟨Wb.cell r0 p, Wb.cell r1 p, Wb.cell r2 p, Wb.cell r3 p, Wb.cell r4 p⟩, ⟨Wb.cell g0 p, Wb.cell g1 p, Wb.cell g2 p, Wb.cell g3 p, Wb.cell g4 p, Wb.cell g5 p, Wb.cell g6 p, Wb.cell g7 p, Wb.cell g8 p, Wb.cell g9 p⟩, ⟨Wb.cell d0 p, Wb.cell d1 p, Wb.cell d2 p, Wb.cell d3 p⟩⟩ : (_ ∧ _ ∧ _ ∧ _ ∧ _) ∧ (_ ∧ _ ∧ _ ∧ _ ∧ _ ∧ _ ∧ _ ∧ _ ∧ _ ∧ _) ∧ (_ ∧ _ ∧ _ ∧ _))
                have HNp := Lib.hid (fun pp : Wb w6 => HNd.out (k + 1) pp.v (HBw6.out.trans (pp.h.mono HBw6.out.size)))
                refine wp_region_wb (by kernel_rfl) (by kernel_rfl) ?_; (repeat ((with_reducible refine wpQuiet_step ?_); intro K hK; go_simp; (try (refine ite_neg_of (by simp [undef]) ?_)); first | (with_reducible refine hK _ ?_; clear hK K) | (apply Exists.intro; (with_reducible refine ⟨fun _ => ?_, hK _ ?_⟩); ((go_at_call 115; exact Calls.wb (HNp.out _))); clear hK K))); (with_reducible refine wpQuiet_nil ?_); rintro w1 ⟨⟨_, hb1⟩, rfl⟩; (try dsimp only)
                have HI7 := Lib.hid (HI6.out.step hb1)
                have HN7 := Lib.hid ((hb1.block _ (Array.getElem?_eq_some_iff.1 HN6.out).1).trans HN6.out)
                obtain ⟨k7, hk7⟩ : ∃ q, nxF ka kb kc (k + 1) = q := ⟨_, rfl⟩
                have HK7 := Lib.hid hk7
                have HKr := Lib.hid (show k7 = 0 ∨ (k + 1 ≤ k7 ∧ k7 ≤ 3) from by
                  rcases kq_next ka kb kc (q := k + 1) (by omega) (by omega) with ⟨e1, _⟩ | ⟨e1, e2, _⟩
                  · left; rw [← hk7]; exact e1
                  · right; rw [← hk7]; exact ⟨e1, e2⟩)
                rw [hk7]
                clear hb1 ss r0 r1 r2 r3 r4 g0 g1 g2 g3 g4 g5 g6 g7 g8 g9 d0 d1 d2 d3 HNp hk7
                go_wp2_with fail
                go_roundw
                case rel => exact ⟨k + 1, k7, D ++ [((i : Int), (a : Int), k)], rfl, HK7.out.symm, by omega, by omega, by rw [List.length_append]; simp; omega, HD2.out, HI7.out, HN7.out⟩
                case measure =>
                  have := HKr.out
                  show (if k7 = 0 then 0 else (4 - k7).toNat) < (if k = 0 then 0 else (4 - k).toNat)
                  rw [if_neg (show ¬ k = 0 by omega)]
                  split <;> omega
        · obtain rfl : n = i := by omega
          clear hI hBwr
          go_wp2_with fail
          go_ret2
          exact ⟨_, by rw [HF.out]; rfl, HBw2.out.trans (HI.out.bel.mono HBw2.out.size), by rw [HF2.out]; exact own_low HI.out.own HBw2.out.size⟩
end Go.Proofs.YtijidcigfdblaaaGreatDoor
