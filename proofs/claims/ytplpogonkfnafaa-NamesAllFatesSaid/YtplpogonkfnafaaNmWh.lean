/- NamesAllFates: what fates are among one another; parts of its walk. -/
import Derived.Test.YtplpogonkfnafaaNmWc
import Derived.Test.YtplpogonkfnafaaNmA
import Derived.Test.YtplpogonkfnafaaNmT
import Derived.Test.YtplpogonkfnafaaNmF
namespace Go.Proofs.Ytplpogonkfnafaa
open Go.RowKit Go.Nm

/-- a list comes before another one of its length, by the first number in which they differ -/
def Bfr (L M : List Int) : Prop := L.length = M.length ∧ ∃ (p : Nat) (x y : Int), (∀ j, j < p → L[j]? = M[j]?) ∧ L[p]? = some x ∧ M[p]? = some y ∧ x < y
set_option maxRecDepth 100000 in
set_option maxHeartbeats 4000000 in
theorem before_any (u v : Value) (L M : List Int) (w : World) (hu : InSl w w.heap.size u L) (hv : InSl w w.heap.size v M) (hL : L.length ≤ 1000000) (hB : Bfr L M) :
    Calls Try.prog 49 #[u, v] w fun e w' => e = .returned (.bool true) ∧ Below w.heap.size w w' := by
  obtain ⟨A, c, rfl, _, _, hA⟩ := hu
  obtain ⟨B, d, rfl, _, _, hM⟩ := hv
  obtain ⟨hlen, p, x, y, hpre, hx, hy, hxy⟩ := hB
  have hpl := (List.getElem?_eq_some_iff.1 hx).1
  have HA := Lib.hid (And.intro hA hM)
  have HP := Lib.hid (And.intro hpre (And.intro hx (And.intro hy hxy)))
  rw [← hlen]
  have HLm := Lib.hid (show M.length = L.length from hlen.symm)
  clear hA hM hpre hx hy hlen
  generalize hnl : L.length = n at *
  have HL := Lib.hid hnl
  clear hnl
  go_enter Try.func49, Try.ntmps49
  go_wp2_with fail
  go_loopw [5] (fun iv wr => ∃ i : Nat, iv = .int .i64 (i : Int) ∧ i ≤ p ∧ Below w.heap.size w wr) (fun iv _ => n - (intOf iv).toNat)
  case atStart => exact ⟨0, rfl, by omega, Below.refl _ _⟩
  case round =>
    obtain ⟨i, rfl, hin, hb⟩ := hrel
    have HBl := Lib.hid hb
    have hlt : i < n := by omega
    obtain ⟨z, ad, hz, rfl, _, hcz⟩ := (HA.out.1.below hb).at_ HL.out hlt
    obtain ⟨t, bd, ht, rfl, _, hct⟩ := (HA.out.2.below hb).at_ HLm.out hlt
    by_cases hip : i < p
    · have hzt : z = t := by
        have := HP.out.1 i hip
        rw [hz, ht] at this
        injection this
      subst hzt
      clear hz ht hb
      go_wp2_with fail
      go_region
      go_wp2_with fail
      go_roundw
      case rel => exact ⟨i + 1, by go_num, by omega, HBl.out.drew⟩
      case measure => simp [intOf]; omega
    · obtain rfl : i = p := by omega
      have e1 : z = x := by have := HP.out.2.1; rw [hz] at this; injection this
      have e2 : t = y := by have := HP.out.2.2.1; rw [ht] at this; injection this
      subst e1 e2
      have hne : (z == t) = false := by simpa using (show z ≠ t from by omega)
      have hne2 : (z != t) = true := by simpa using (show z ≠ t from by omega)
      clear hz ht hb hin hip
      go_wp2_with fail
      go_region
      go_wp2_with fail
      go_region
      go_wp2_with fail
      go_ret
      exact ⟨rfl, HBl.out.drew.drew⟩

theorem fur_inc {b : Bk} (hb : Val b) (g : List Int) : Inc (furF b g) := by
  unfold furF
  split
  · exact (val_ver hb).2.2.1
  · split
    · rename_i c hc
      obtain ⟨_, _, _, _, d⟩ := step_data hb hc
      split
      · exact d.ito
      · simp [Inc]
    · simp [Inc]
theorem fates_bfr {b : Bk} (hb : Val b) : ∀ (d : Nat) (g : List Int), (fatesF b d g).Pairwise Bfr
  | 0, g => by simp [fatesF]
  | d + 1, g => by
    show ((furF b g).flatMap fun x => fatesF b d (g ++ [x])).Pairwise Bfr
    refine List.pairwise_flatMap.2 ⟨fun x _ => fates_bfr hb d _, ?_⟩
    refine List.Pairwise.imp ?_ (fur_inc hb g)
    intro x y hxy s hs t ht
    obtain ⟨e, rfl, he, _⟩ := mem_fates.1 hs
    obtain ⟨e', rfl, he', _⟩ := mem_fates.1 ht
    refine ⟨by simp [he, he'], g.length, x, y, fun j hj => ?_, by simp, by simp, hxy⟩
    rw [List.append_assoc, List.append_assoc, List.getElem?_append_left hj, List.getElem?_append_left hj]
/-- all that the law goes by -/
structure AfD (b : Bk) (F : List (List Int)) : Prop where
  val : Val b
  few : F.length ≤ 100000
  all : F = fatesF b (b.chs.length + 1) []
  len : ∀ f ∈ F, f.length = b.chs.length + 1
  bfr : ∀ (i : Nat) (f f' : List Int), F[i]? = some f → F[i + 1]? = some f' → Bfr f f'
  step : ∀ f ∈ F, ∀ i x y c, b.chs[i]? = some c → f[i]? = some x → f[i + 1]? = some y → Sp c x y
  nam : ∀ v, v ≤ b.chs.length → ∃ A, (vers b)[v]? = some A ∧ namesOut b v = (A, 0) ∧ A.length ≤ 400 ∧ (∀ f ∈ F, ∀ z, f[v]? = some z → z ∈ A) ∧
    ∀ x ∈ A, throughOut b v x = (thr v x F, 0) ∧ thr v x F ≠ []
theorem af_data {b : Bk} {F : List (List Int)} {e : Int} (h : fatesOut b = (F, e)) : (e ≠ 0 ∧ F = []) ∨ (e = 0 ∧ AfD b F) := by
  unfold fatesOut at h
  by_cases h0 : openE b [] = 0
  case neg =>
    rw [if_neg h0] at h
    injection h with h1 h2
    exact .inl ⟨by rw [← h2]; exact h0, h1.symm⟩
  rw [if_pos h0] at h
  by_cases hr : rich b = true
  case pos =>
    rw [if_pos hr] at h
    injection h with h1 h2
    exact .inl ⟨by rw [← h2]; decide, h1.symm⟩
  rw [if_neg hr] at h
  injection h with h1 h2
  obtain ⟨hv, _⟩ := openE_val h0
  have hpoor : rich b = false := by simpa using hr
  have hF : F = fatesF b (b.chs.length + 1) [] := h1.symm
  refine .inr ⟨h2.symm, hv, ?_, hF, fun f hf => ?_, fun i f f' hi hi' => ?_, fun f hf => ?_, fun v hvl => ?_⟩
  · rw [hF]; exact fates_few hv hpoor
  · rw [hF] at hf; exact (mem_all.1 hf).1
  · have hp := fates_bfr hv (b.chs.length + 1) []
    rw [← hF] at hp
    have h3 := (List.getElem?_eq_some_iff.1 hi).1
    have h4 := (List.getElem?_eq_some_iff.1 hi').1
    have := (List.pairwise_iff_getElem.1 hp) i (i + 1) h3 h4 (by omega)
    rw [(List.getElem?_eq_some_iff.1 hi).2, (List.getElem?_eq_some_iff.1 hi').2] at this
    exact this
  · rw [hF] at hf; exact (mem_all.1 hf).2.2
  · obtain ⟨A, hA, hAi, hAl⟩ := vers_at hv hvl
    have hlen := val_len hv
    refine ⟨A, hA, ?_, hAl, fun f hf z hz => ?_, fun x hx => ?_⟩
    · unfold namesOut
      have e1 : openE b [(v : Int)] = 0 := by
        unfold openE
        rw [if_pos hv, if_pos]
        intro q hq
        simp at hq
        subst hq
        omega
      rw [if_pos e1, Int.toNat_natCast, List.getD_eq_getElem?_getD, hA]
      rfl
    · rw [hF] at hf
      obtain ⟨hl, hf0, _⟩ := mem_all.1 hf
      have hs0 : f[0]? = some f[0] := List.getElem?_eq_getElem (by omega)
      have hp := fate_path hf v 0 _ z hs0 (by rw [Nat.zero_add]; exact hz)
      obtain ⟨C', hC', _, hsub⟩ := fwdN_ok hv (val_first hv) (l := [f[0]]) (by simp [Inc]) (by simp; exact hf0 _ hs0) v (by omega)
      rw [Nat.zero_add, hA] at hC'; cases hC'
      exact hsub z ((mem_fwd hv (val_first hv) (by simp [Inc]) (by simp; exact hf0 _ hs0) v (by omega) z).2 ⟨_, by simp, hp⟩)
    · have d : NmD b v x A := ⟨hv, hvl, hA, hx⟩
      refine ⟨?_, ?_⟩
      · unfold throughOut
        rw [if_pos d.openAt0, if_neg (by rw [hpoor]; decide), Int.toNat_natCast, ← hF]
      · obtain ⟨s, hs, h5, _⟩ := (mns_fates hv hA hx hvl hvl).1 (show x ∈ mns b.chs v [x] v from by unfold mns; rw [if_pos (Nat.le_refl _), Nat.sub_self]; simp [fwdN])
        rw [← hF] at hs
        obtain ⟨j, hj⟩ := List.getElem?_of_mem hs
        intro h6
        have := mem_thr.2 ⟨j, rfl, s, hj, h5⟩
        rw [h6] at this
        cases this
/-- what a name means, by the fates through it -/
theorem af_means {b : Bk} {F : List (List Int)} {V X W : Int} {t m : List Int} (d : AfD b F) (h1 : throughOut b V X = (t, 0)) (h2 : meansOut b V X W = (m, 0)) :
    ∃ k : Nat, W = k ∧ k ≤ b.chs.length ∧ t.length ≤ 100000 ∧ m.length ≤ 400 ∧ Inc m ∧ (∀ q ∈ t, ∃ (j : Nat) (f : List Int) (z : Int), q = (j : Int) ∧ F[j]? = some f ∧ f[k]? = some z ∧ z ∈ m) ∧
      ∀ z ∈ m, ∃ q ∈ t, ∃ (j : Nat) (f : List Int), q = (j : Int) ∧ F[j]? = some f ∧ f[k]? = some z := by
  unfold meansOut at h2
  by_cases h0 : openAtE b [W] V X = 0
  case neg =>
    rw [if_neg h0] at h2
    injection h2 with _ h2
    exact absurd h2 h0
  rw [if_pos h0] at h2
  injection h2 with h2 _
  obtain ⟨hv, hV, hx⟩ := openAtE_zero h0
  have hn := hV V (by simp)
  have hm := hV W (by simp)
  obtain ⟨n, rfl⟩ : ∃ k : Nat, V = (k : Int) := ⟨V.toNat, by omega⟩
  obtain ⟨k, rfl⟩ : ∃ k : Nat, W = (k : Int) := ⟨W.toNat, by omega⟩
  simp only [Int.toNat_natCast] at hx h2
  obtain ⟨A, hA, hxA⟩ := getD_mem hx
  have nd : NmD b n X A := ⟨hv, by omega, hA, hxA⟩
  obtain ⟨A', hA', _, _, _, hth⟩ := d.nam n (by omega)
  rw [hA] at hA'; cases hA'
  obtain ⟨e1, _⟩ := hth X hxA
  rw [h1] at e1
  injection e1 with e1 _
  obtain ⟨B, hB, hBi, hBs⟩ := mns_ok hv hA (l := [X]) (by simp [Inc]) (by simp; exact hxA) (show n ≤ b.chs.length by omega) (show k ≤ b.chs.length by omega)
  subst h2
  subst e1
  refine ⟨k, rfl, by omega, Nat.le_trans (thr_len _ _ _) d.few, Nat.le_trans (inc_sub_len hBi hBs) (vers_ok B (List.mem_of_getElem? hB)).2, hBi, fun q hq => ?_, fun z hz => ?_⟩
  · obtain ⟨j, rfl, f, hf, hfx⟩ := mem_thr.1 hq
    have hfm := List.mem_of_getElem? hf
    have hl := d.len f hfm
    have hz : f[k]? = some f[k] := List.getElem?_eq_getElem (by omega)
    refine ⟨j, f, _, rfl, hf, hz, (mns_fates hv hA hxA (by omega) (by omega)).2 ⟨f, by rw [← d.all]; exact hfm, hfx, hz⟩⟩
  · obtain ⟨s, hs, h3, h4⟩ := (mns_fates hv hA hxA (by omega) (by omega)).1 hz
    rw [← d.all] at hs
    obtain ⟨j, hj⟩ := List.getElem?_of_mem hs
    exact ⟨(j : Int), mem_thr.2 ⟨j, rfl, s, hj, h3⟩, j, s, rfl, hj, h4⟩

theorem wp_abs {P : Program} {c : Code} {Q : Exit → Act → World → Prop} {T : Array Value} {ds : List Deferred} {w : World} (h : ∀ t0, t0 = T → c.wp P Q { tmps := t0, defers := ds } w) : c.wp P Q { tmps := T, defers := ds } w := h T rfl
theorem getD_set_same {t : Array Value} {i : Nat} {v : Value} (h : i < t.size) : (t.setIfInBounds i v).getD i undef = v := by simp [Array.getD, h]
theorem getD_set_other {t : Array Value} {i k : Nat} {v : Value} (h : k ≠ i) : (t.setIfInBounds i v).getD k undef = t.getD k undef := by
  simp only [Array.getD_eq_getD_getElem?]
  rw [Array.getElem?_setIfInBounds_ne (by omega)]
/-- the slots that the region writes -/
def ownT (k : Nat) : Bool := k == 160 || k == 161 || k == 162 || k == 163 || k == 164 || k == 165 || k == 166 || k == 159 || k == 167 || k == 168 || k == 16 || k == 17
structure TrG (t0 : Array Value) (W : World) (T : List Int) (bk v s k p x : Value) (dn : Nat → Bool) (a : Act) (X : World) : Prop where
  sz : a.tmps.size = t0.size
  kp : ∀ q, ownT q = false → a.tmps.getD q undef = t0.getD q undef
  ds : a.defers = []
  pre : dn 6 = false → X = W
  e0 : dn 0 = true → a.tmps.getD 160 undef = bk
  e1 : dn 1 = true → a.tmps.getD 161 undef = v
  e2 : dn 2 = true → a.tmps.getD 162 undef = s
  e3 : dn 3 = true → a.tmps.getD 163 undef = k
  e4 : dn 4 = true → a.tmps.getD 164 undef = p
  e5 : dn 5 = true → a.tmps.getD 165 undef = x
  post : dn 6 = true → ∃ u, a.tmps.getD 166 undef = .tuple #[u, .int .i64 0] ∧ InSl X X.heap.size u T ∧ Below W.heap.size W X ∧ (dn 7 = true → a.tmps.getD 159 undef = .tuple #[u, .int .i64 0]) ∧ (dn 8 = true → a.tmps.getD 167 undef = u) ∧ (dn 9 = true → a.tmps.getD 168 undef = .int .i64 0) ∧ (dn 10 = true → a.tmps.getD 16 undef = u) ∧ (dn 11 = true → a.tmps.getD 17 undef = .int .i64 0)
  o4 : dn 4 = true → dn 2 = true ∧ dn 3 = true
  o5 : dn 5 = true → dn 4 = true
  o6 : dn 6 = true → dn 0 = true ∧ dn 1 = true ∧ dn 5 = true
  o7 : dn 7 = true → dn 6 = true
  o8 : dn 8 = true → dn 7 = true
  o9 : dn 9 = true → dn 7 = true
  o10 : dn 10 = true → dn 8 = true
  o11 : dn 11 = true → dn 9 = true
/-- one operation of the region after another -/
theorem put_other {a : Act} {d k : Nat} {v : Value} (h : k ≠ d) : (a.put (some d) v).tmps.getD k undef = a.tmps.getD k undef := getD_set_other h
theorem put_same {a : Act} {d : Nat} {v : Value} (h : d < a.tmps.size) : (a.put (some d) v).tmps.getD d undef = v := getD_set_same h
theorem TrG.s0 {t0 : Array Value} {W : World} {T : List Int} {bk v s k p x : Value} {dn : Nat → Bool} {a : Act} {X : World} (h : TrG t0 W T bk v s k p x dn a X) (hsz : t0.size = 360) (n6 : dn 6 = false) : TrG t0 W T bk v s k p x (andB dn 0) (a.put (some 160) bk) X :=
  ⟨by rw [← h.sz]; simp [Act.put], fun q hq => by rw [put_other (fun e => by subst e; cases hq)]; exact h.kp q hq, h.ds, h.pre, fun _ => put_same (by rw [h.sz, hsz]; decide), fun g => by rw [put_other (by decide)]; exact h.e1 g, fun g => by rw [put_other (by decide)]; exact h.e2 g, fun g => by rw [put_other (by decide)]; exact h.e3 g, fun g => by rw [put_other (by decide)]; exact h.e4 g, fun g => by rw [put_other (by decide)]; exact h.e5 g, fun g => absurd (n6.symm.trans g) (by decide), h.o4, h.o5, fun g => ⟨rfl, (h.o6 g).2⟩, h.o7, h.o8, h.o9, h.o10, h.o11⟩
theorem TrG.s1 {t0 : Array Value} {W : World} {T : List Int} {bk v s k p x : Value} {dn : Nat → Bool} {a : Act} {X : World} (h : TrG t0 W T bk v s k p x dn a X) (hsz : t0.size = 360) (n6 : dn 6 = false) : TrG t0 W T bk v s k p x (andB dn 1) (a.put (some 161) v) X :=
  ⟨by rw [← h.sz]; simp [Act.put], fun q hq => by rw [put_other (fun e => by subst e; cases hq)]; exact h.kp q hq, h.ds, h.pre, fun g => by rw [put_other (by decide)]; exact h.e0 g, fun _ => put_same (by rw [h.sz, hsz]; decide), fun g => by rw [put_other (by decide)]; exact h.e2 g, fun g => by rw [put_other (by decide)]; exact h.e3 g, fun g => by rw [put_other (by decide)]; exact h.e4 g, fun g => by rw [put_other (by decide)]; exact h.e5 g, fun g => absurd (n6.symm.trans g) (by decide), h.o4, h.o5, fun g => ⟨(h.o6 g).1, rfl, (h.o6 g).2.2⟩, h.o7, h.o8, h.o9, h.o10, h.o11⟩
theorem TrG.s2 {t0 : Array Value} {W : World} {T : List Int} {bk v s k p x : Value} {dn : Nat → Bool} {a : Act} {X : World} (h : TrG t0 W T bk v s k p x dn a X) (hsz : t0.size = 360) (n6 : dn 6 = false) : TrG t0 W T bk v s k p x (andB dn 2) (a.put (some 162) s) X :=
  ⟨by rw [← h.sz]; simp [Act.put], fun q hq => by rw [put_other (fun e => by subst e; cases hq)]; exact h.kp q hq, h.ds, h.pre, fun g => by rw [put_other (by decide)]; exact h.e0 g, fun g => by rw [put_other (by decide)]; exact h.e1 g, fun _ => put_same (by rw [h.sz, hsz]; decide), fun g => by rw [put_other (by decide)]; exact h.e3 g, fun g => by rw [put_other (by decide)]; exact h.e4 g, fun g => by rw [put_other (by decide)]; exact h.e5 g, fun g => absurd (n6.symm.trans g) (by decide), fun g => ⟨rfl, (h.o4 g).2⟩, h.o5, h.o6, h.o7, h.o8, h.o9, h.o10, h.o11⟩
theorem TrG.s3 {t0 : Array Value} {W : World} {T : List Int} {bk v s k p x : Value} {dn : Nat → Bool} {a : Act} {X : World} (h : TrG t0 W T bk v s k p x dn a X) (hsz : t0.size = 360) (n6 : dn 6 = false) : TrG t0 W T bk v s k p x (andB dn 3) (a.put (some 163) k) X :=
  ⟨by rw [← h.sz]; simp [Act.put], fun q hq => by rw [put_other (fun e => by subst e; cases hq)]; exact h.kp q hq, h.ds, h.pre, fun g => by rw [put_other (by decide)]; exact h.e0 g, fun g => by rw [put_other (by decide)]; exact h.e1 g, fun g => by rw [put_other (by decide)]; exact h.e2 g, fun _ => put_same (by rw [h.sz, hsz]; decide), fun g => by rw [put_other (by decide)]; exact h.e4 g, fun g => by rw [put_other (by decide)]; exact h.e5 g, fun g => absurd (n6.symm.trans g) (by decide), fun g => ⟨(h.o4 g).1, rfl⟩, h.o5, h.o6, h.o7, h.o8, h.o9, h.o10, h.o11⟩
theorem TrG.s4 {t0 : Array Value} {W : World} {T : List Int} {bk v s k p x : Value} {dn : Nat → Bool} {a : Act} {X : World} (h : TrG t0 W T bk v s k p x dn a X) (hsz : t0.size = 360) (n6 : dn 6 = false) (y2 : dn 2 = true) (y3 : dn 3 = true) : TrG t0 W T bk v s k p x (andB dn 4) (a.put (some 164) p) X :=
  ⟨by rw [← h.sz]; simp [Act.put], fun q hq => by rw [put_other (fun e => by subst e; cases hq)]; exact h.kp q hq, h.ds, h.pre, fun g => by rw [put_other (by decide)]; exact h.e0 g, fun g => by rw [put_other (by decide)]; exact h.e1 g, fun g => by rw [put_other (by decide)]; exact h.e2 g, fun g => by rw [put_other (by decide)]; exact h.e3 g, fun _ => put_same (by rw [h.sz, hsz]; decide), fun g => by rw [put_other (by decide)]; exact h.e5 g, fun g => absurd (n6.symm.trans g) (by decide), fun _ => ⟨y2, y3⟩, fun g => rfl, h.o6, h.o7, h.o8, h.o9, h.o10, h.o11⟩
theorem TrG.s5 {t0 : Array Value} {W : World} {T : List Int} {bk v s k p x : Value} {dn : Nat → Bool} {a : Act} {X : World} (h : TrG t0 W T bk v s k p x dn a X) (hsz : t0.size = 360) (n6 : dn 6 = false) (y4 : dn 4 = true) : TrG t0 W T bk v s k p x (andB dn 5) (a.put (some 165) x) X :=
  ⟨by rw [← h.sz]; simp [Act.put], fun q hq => by rw [put_other (fun e => by subst e; cases hq)]; exact h.kp q hq, h.ds, h.pre, fun g => by rw [put_other (by decide)]; exact h.e0 g, fun g => by rw [put_other (by decide)]; exact h.e1 g, fun g => by rw [put_other (by decide)]; exact h.e2 g, fun g => by rw [put_other (by decide)]; exact h.e3 g, fun g => by rw [put_other (by decide)]; exact h.e4 g, fun _ => put_same (by rw [h.sz, hsz]; decide), fun g => absurd (n6.symm.trans g) (by decide), h.o4, fun _ => y4, fun g => ⟨(h.o6 g).1, (h.o6 g).2.1, rfl⟩, h.o7, h.o8, h.o9, h.o10, h.o11⟩
theorem TrG.s6 {t0 : Array Value} {W : World} {T : List Int} {bk v s k p x : Value} {dn : Nat → Bool} {a : Act} {X : World} {Y : World} {u : Value} (h : TrG t0 W T bk v s k p x dn a X) (hsz : t0.size = 360) (hd : dn 6 = false) (y0 : dn 0 = true) (y1 : dn 1 = true) (y5 : dn 5 = true) (hi : InSl Y Y.heap.size u T) (hb : Below W.heap.size W Y) : TrG t0 W T bk v s k p x (andB dn 6) (a.put (some 166) (.tuple #[u, .int .i64 0])) Y :=
  ⟨by rw [← h.sz]; simp [Act.put], fun q hq => by rw [put_other (fun e => by subst e; cases hq)]; exact h.kp q hq, h.ds, (fun g => nomatch g), fun g => by rw [put_other (by decide)]; exact h.e0 g, fun g => by rw [put_other (by decide)]; exact h.e1 g, fun g => by rw [put_other (by decide)]; exact h.e2 g, fun g => by rw [put_other (by decide)]; exact h.e3 g, fun g => by rw [put_other (by decide)]; exact h.e4 g, fun g => by rw [put_other (by decide)]; exact h.e5 g, fun _ => ⟨u, put_same (by rw [h.sz, hsz]; decide), hi, hb, (fun g => absurd (hd.symm.trans (h.o7 g)) (by decide)), (fun g => absurd (hd.symm.trans (h.o7 (h.o8 g))) (by decide)), (fun g => absurd (hd.symm.trans (h.o7 (h.o9 g))) (by decide)), (fun g => absurd (hd.symm.trans (h.o7 (h.o8 (h.o10 g)))) (by decide)), (fun g => absurd (hd.symm.trans (h.o7 (h.o9 (h.o11 g)))) (by decide))⟩, h.o4, h.o5, fun _ => ⟨y0, y1, y5⟩, fun g => rfl, h.o8, h.o9, h.o10, h.o11⟩
theorem TrG.s7 {t0 : Array Value} {W : World} {T : List Int} {bk v s k p x : Value} {dn : Nat → Bool} {a : Act} {X : World} {u : Value} (h : TrG t0 W T bk v s k p x dn a X) (hsz : t0.size = 360) (y6 : dn 6 = true) (b0 : a.tmps.getD 166 undef = .tuple #[u, .int .i64 0]) (hi : InSl X X.heap.size u T) (hb : Below W.heap.size W X) (_ : dn 7 = true → a.tmps.getD 159 undef = .tuple #[u, .int .i64 0]) (b8 : dn 8 = true → a.tmps.getD 167 undef = u) (b9 : dn 9 = true → a.tmps.getD 168 undef = .int .i64 0) (b10 : dn 10 = true → a.tmps.getD 16 undef = u) (b11 : dn 11 = true → a.tmps.getD 17 undef = .int .i64 0) : TrG t0 W T bk v s k p x (andB dn 7) (a.put (some 159) (.tuple #[u, .int .i64 0])) X :=
  ⟨by rw [← h.sz]; simp [Act.put], fun q hq => by rw [put_other (fun e => by subst e; cases hq)]; exact h.kp q hq, h.ds, fun g => absurd (y6.symm.trans g) (by decide), fun g => by rw [put_other (by decide)]; exact h.e0 g, fun g => by rw [put_other (by decide)]; exact h.e1 g, fun g => by rw [put_other (by decide)]; exact h.e2 g, fun g => by rw [put_other (by decide)]; exact h.e3 g, fun g => by rw [put_other (by decide)]; exact h.e4 g, fun g => by rw [put_other (by decide)]; exact h.e5 g, fun _ => ⟨u, (by rw [put_other (by decide)]; exact b0), hi, hb, (fun _ => by rw [put_same (by rw [h.sz, hsz]; decide)]), (fun g => by rw [put_other (by decide)]; exact b8 g), (fun g => by rw [put_other (by decide)]; exact b9 g), (fun g => by rw [put_other (by decide)]; exact b10 g), (fun g => by rw [put_other (by decide)]; exact b11 g)⟩, h.o4, h.o5, h.o6, fun _ => y6, fun _ => rfl, fun _ => rfl, h.o10, h.o11⟩
theorem TrG.s8 {t0 : Array Value} {W : World} {T : List Int} {bk v s k p x : Value} {dn : Nat → Bool} {a : Act} {X : World} {u : Value} (h : TrG t0 W T bk v s k p x dn a X) (hsz : t0.size = 360) (y6 : dn 6 = true) (y7 : dn 7 = true) (b0 : a.tmps.getD 166 undef = .tuple #[u, .int .i64 0]) (hi : InSl X X.heap.size u T) (hb : Below W.heap.size W X) (b7 : dn 7 = true → a.tmps.getD 159 undef = .tuple #[u, .int .i64 0]) (_ : dn 8 = true → a.tmps.getD 167 undef = u) (b9 : dn 9 = true → a.tmps.getD 168 undef = .int .i64 0) (b10 : dn 10 = true → a.tmps.getD 16 undef = u) (b11 : dn 11 = true → a.tmps.getD 17 undef = .int .i64 0) : TrG t0 W T bk v s k p x (andB dn 8) (a.put (some 167) (u)) X :=
  ⟨by rw [← h.sz]; simp [Act.put], fun q hq => by rw [put_other (fun e => by subst e; cases hq)]; exact h.kp q hq, h.ds, fun g => absurd (y6.symm.trans g) (by decide), fun g => by rw [put_other (by decide)]; exact h.e0 g, fun g => by rw [put_other (by decide)]; exact h.e1 g, fun g => by rw [put_other (by decide)]; exact h.e2 g, fun g => by rw [put_other (by decide)]; exact h.e3 g, fun g => by rw [put_other (by decide)]; exact h.e4 g, fun g => by rw [put_other (by decide)]; exact h.e5 g, fun _ => ⟨u, (by rw [put_other (by decide)]; exact b0), hi, hb, (fun g => by rw [put_other (by decide)]; exact b7 g), (fun _ => by rw [put_same (by rw [h.sz, hsz]; decide)]), (fun g => by rw [put_other (by decide)]; exact b9 g), (fun g => by rw [put_other (by decide)]; exact b10 g), (fun g => by rw [put_other (by decide)]; exact b11 g)⟩, h.o4, h.o5, h.o6, h.o7, fun _ => y7, h.o9, fun _ => rfl, h.o11⟩
theorem TrG.s9 {t0 : Array Value} {W : World} {T : List Int} {bk v s k p x : Value} {dn : Nat → Bool} {a : Act} {X : World} {u : Value} (h : TrG t0 W T bk v s k p x dn a X) (hsz : t0.size = 360) (y6 : dn 6 = true) (y7 : dn 7 = true) (b0 : a.tmps.getD 166 undef = .tuple #[u, .int .i64 0]) (hi : InSl X X.heap.size u T) (hb : Below W.heap.size W X) (b7 : dn 7 = true → a.tmps.getD 159 undef = .tuple #[u, .int .i64 0]) (b8 : dn 8 = true → a.tmps.getD 167 undef = u) (_ : dn 9 = true → a.tmps.getD 168 undef = .int .i64 0) (b10 : dn 10 = true → a.tmps.getD 16 undef = u) (b11 : dn 11 = true → a.tmps.getD 17 undef = .int .i64 0) : TrG t0 W T bk v s k p x (andB dn 9) (a.put (some 168) (.int .i64 0)) X :=
  ⟨by rw [← h.sz]; simp [Act.put], fun q hq => by rw [put_other (fun e => by subst e; cases hq)]; exact h.kp q hq, h.ds, fun g => absurd (y6.symm.trans g) (by decide), fun g => by rw [put_other (by decide)]; exact h.e0 g, fun g => by rw [put_other (by decide)]; exact h.e1 g, fun g => by rw [put_other (by decide)]; exact h.e2 g, fun g => by rw [put_other (by decide)]; exact h.e3 g, fun g => by rw [put_other (by decide)]; exact h.e4 g, fun g => by rw [put_other (by decide)]; exact h.e5 g, fun _ => ⟨u, (by rw [put_other (by decide)]; exact b0), hi, hb, (fun g => by rw [put_other (by decide)]; exact b7 g), (fun g => by rw [put_other (by decide)]; exact b8 g), (fun _ => by rw [put_same (by rw [h.sz, hsz]; decide)]), (fun g => by rw [put_other (by decide)]; exact b10 g), (fun g => by rw [put_other (by decide)]; exact b11 g)⟩, h.o4, h.o5, h.o6, h.o7, h.o8, fun _ => y7, h.o10, fun _ => rfl⟩
theorem TrG.s10 {t0 : Array Value} {W : World} {T : List Int} {bk v s k p x : Value} {dn : Nat → Bool} {a : Act} {X : World} {u : Value} (h : TrG t0 W T bk v s k p x dn a X) (hsz : t0.size = 360) (y6 : dn 6 = true) (y8 : dn 8 = true) (b0 : a.tmps.getD 166 undef = .tuple #[u, .int .i64 0]) (hi : InSl X X.heap.size u T) (hb : Below W.heap.size W X) (b7 : dn 7 = true → a.tmps.getD 159 undef = .tuple #[u, .int .i64 0]) (b8 : dn 8 = true → a.tmps.getD 167 undef = u) (b9 : dn 9 = true → a.tmps.getD 168 undef = .int .i64 0) (_ : dn 10 = true → a.tmps.getD 16 undef = u) (b11 : dn 11 = true → a.tmps.getD 17 undef = .int .i64 0) : TrG t0 W T bk v s k p x (andB dn 10) (a.put (some 16) (u)) X :=
  ⟨by rw [← h.sz]; simp [Act.put], fun q hq => by rw [put_other (fun e => by subst e; cases hq)]; exact h.kp q hq, h.ds, fun g => absurd (y6.symm.trans g) (by decide), fun g => by rw [put_other (by decide)]; exact h.e0 g, fun g => by rw [put_other (by decide)]; exact h.e1 g, fun g => by rw [put_other (by decide)]; exact h.e2 g, fun g => by rw [put_other (by decide)]; exact h.e3 g, fun g => by rw [put_other (by decide)]; exact h.e4 g, fun g => by rw [put_other (by decide)]; exact h.e5 g, fun _ => ⟨u, (by rw [put_other (by decide)]; exact b0), hi, hb, (fun g => by rw [put_other (by decide)]; exact b7 g), (fun g => by rw [put_other (by decide)]; exact b8 g), (fun g => by rw [put_other (by decide)]; exact b9 g), (fun _ => by rw [put_same (by rw [h.sz, hsz]; decide)]), (fun g => by rw [put_other (by decide)]; exact b11 g)⟩, h.o4, h.o5, h.o6, h.o7, h.o8, h.o9, fun _ => y8, h.o11⟩
theorem TrG.s11 {t0 : Array Value} {W : World} {T : List Int} {bk v s k p x : Value} {dn : Nat → Bool} {a : Act} {X : World} {u : Value} (h : TrG t0 W T bk v s k p x dn a X) (hsz : t0.size = 360) (y6 : dn 6 = true) (y9 : dn 9 = true) (b0 : a.tmps.getD 166 undef = .tuple #[u, .int .i64 0]) (hi : InSl X X.heap.size u T) (hb : Below W.heap.size W X) (b7 : dn 7 = true → a.tmps.getD 159 undef = .tuple #[u, .int .i64 0]) (b8 : dn 8 = true → a.tmps.getD 167 undef = u) (b9 : dn 9 = true → a.tmps.getD 168 undef = .int .i64 0) (b10 : dn 10 = true → a.tmps.getD 16 undef = u) (_ : dn 11 = true → a.tmps.getD 17 undef = .int .i64 0) : TrG t0 W T bk v s k p x (andB dn 11) (a.put (some 17) (.int .i64 0)) X :=
  ⟨by rw [← h.sz]; simp [Act.put], fun q hq => by rw [put_other (fun e => by subst e; cases hq)]; exact h.kp q hq, h.ds, fun g => absurd (y6.symm.trans g) (by decide), fun g => by rw [put_other (by decide)]; exact h.e0 g, fun g => by rw [put_other (by decide)]; exact h.e1 g, fun g => by rw [put_other (by decide)]; exact h.e2 g, fun g => by rw [put_other (by decide)]; exact h.e3 g, fun g => by rw [put_other (by decide)]; exact h.e4 g, fun g => by rw [put_other (by decide)]; exact h.e5 g, fun _ => ⟨u, (by rw [put_other (by decide)]; exact b0), hi, hb, (fun g => by rw [put_other (by decide)]; exact b7 g), (fun g => by rw [put_other (by decide)]; exact b8 g), (fun g => by rw [put_other (by decide)]; exact b9 g), (fun g => by rw [put_other (by decide)]; exact b10 g), (fun _ => by rw [put_same (by rw [h.sz, hsz]; decide)])⟩, h.o4, h.o5, h.o6, h.o7, h.o8, h.o9, h.o10, fun _ => y9⟩
theorem array_getD_ext {t t' : Array Value} (hs : t.size = t'.size) (h : ∀ k, t.getD k undef = t'.getD k undef) : t = t' := by
  apply Array.ext hs
  intro i h1 h2
  have := h i
  simpa [Array.getD, h1, h2] using this
set_option maxHeartbeats 400000 in
theorem TrG.fin {t0 : Array Value} {W : World} {T : List Int} {bk v s k p x : Value} {dn : Nat → Bool} {a : Act} {X : World} (h : TrG t0 W T bk v s k p x dn a X) (hsz : t0.size = 360) (hd : ∀ j, j < 12 → dn j = true) : ∃ u, InSl X X.heap.size u T ∧ Below W.heap.size W X ∧ a = { tmps := ((((((((((((t0.setIfInBounds 160 bk).setIfInBounds 161 v).setIfInBounds 162 s).setIfInBounds 163 k).setIfInBounds 164 p).setIfInBounds 165 x).setIfInBounds 166 (Value.tuple #[u, Value.int IntKind.i64 0])).setIfInBounds 159 (Value.tuple #[u, Value.int IntKind.i64 0])).setIfInBounds 167 u).setIfInBounds 168 (Value.int IntKind.i64 0)).setIfInBounds 16 u).setIfInBounds 17 (Value.int IntKind.i64 0)), defers := [] } := by
  obtain ⟨u, b0, hi, hb, b7, b8, b9, b10, b11⟩ := h.post (hd 6 (by omega))
  refine ⟨u, hi, hb, ?_⟩
  have c0 := h.e0 (hd 0 (by omega))
  have c1 := h.e1 (hd 1 (by omega))
  have c2 := h.e2 (hd 2 (by omega))
  have c3 := h.e3 (hd 3 (by omega))
  have c4 := h.e4 (hd 4 (by omega))
  have c5 := h.e5 (hd 5 (by omega))
  have c7 := b7 (hd 7 (by omega))
  have c8 := b8 (hd 8 (by omega))
  have c9 := b9 (hd 9 (by omega))
  have c10 := b10 (hd 10 (by omega))
  have c11 := b11 (hd 11 (by omega))
  have hs := h.sz
  have hk := h.kp
  have hds := h.ds
  clear h hd b7 b8 b9 b10 b11
  obtain ⟨tm, ds⟩ := a
  simp only at c0 c1 c2 c3 c4 c5 c7 c8 c9 c10 c11 b0 hs hk hds
  subst hds
  refine congrArg (fun t => Act.mk t []) ?_
  refine array_getD_ext (by simp [hs]) fun q => ?_
  cases hq : ownT q with
  | false =>
    have hne : ∀ d, ownT d = true → q ≠ d := fun d hd e => by rw [e, hd] at hq; cases hq
    rw [getD_set_other (hne 17 rfl), getD_set_other (hne 16 rfl), getD_set_other (hne 168 rfl), getD_set_other (hne 167 rfl), getD_set_other (hne 159 rfl), getD_set_other (hne 166 rfl), getD_set_other (hne 165 rfl), getD_set_other (hne 164 rfl), getD_set_other (hne 163 rfl), getD_set_other (hne 162 rfl), getD_set_other (hne 161 rfl), getD_set_other (hne 160 rfl)]
    exact hk q hq
  | true =>
    unfold ownT at hq
    simp only [Bool.or_eq_true, beq_iff_eq] at hq
    rcases hq with ((((((((((rfl | rfl) | rfl) | rfl) | rfl) | rfl) | rfl) | rfl) | rfl) | rfl) | rfl) | rfl
    · rw [getD_set_other (show (160 : Nat) ≠ 17 from by decide), getD_set_other (show (160 : Nat) ≠ 16 from by decide), getD_set_other (show (160 : Nat) ≠ 168 from by decide), getD_set_other (show (160 : Nat) ≠ 167 from by decide), getD_set_other (show (160 : Nat) ≠ 159 from by decide), getD_set_other (show (160 : Nat) ≠ 166 from by decide), getD_set_other (show (160 : Nat) ≠ 165 from by decide), getD_set_other (show (160 : Nat) ≠ 164 from by decide), getD_set_other (show (160 : Nat) ≠ 163 from by decide), getD_set_other (show (160 : Nat) ≠ 162 from by decide), getD_set_other (show (160 : Nat) ≠ 161 from by decide), getD_set_same (show 160 < _ from by simp [hsz])]; exact c0
    · rw [getD_set_other (show (161 : Nat) ≠ 17 from by decide), getD_set_other (show (161 : Nat) ≠ 16 from by decide), getD_set_other (show (161 : Nat) ≠ 168 from by decide), getD_set_other (show (161 : Nat) ≠ 167 from by decide), getD_set_other (show (161 : Nat) ≠ 159 from by decide), getD_set_other (show (161 : Nat) ≠ 166 from by decide), getD_set_other (show (161 : Nat) ≠ 165 from by decide), getD_set_other (show (161 : Nat) ≠ 164 from by decide), getD_set_other (show (161 : Nat) ≠ 163 from by decide), getD_set_other (show (161 : Nat) ≠ 162 from by decide), getD_set_same (show 161 < _ from by simp [hsz])]; exact c1
    · rw [getD_set_other (show (162 : Nat) ≠ 17 from by decide), getD_set_other (show (162 : Nat) ≠ 16 from by decide), getD_set_other (show (162 : Nat) ≠ 168 from by decide), getD_set_other (show (162 : Nat) ≠ 167 from by decide), getD_set_other (show (162 : Nat) ≠ 159 from by decide), getD_set_other (show (162 : Nat) ≠ 166 from by decide), getD_set_other (show (162 : Nat) ≠ 165 from by decide), getD_set_other (show (162 : Nat) ≠ 164 from by decide), getD_set_other (show (162 : Nat) ≠ 163 from by decide), getD_set_same (show 162 < _ from by simp [hsz])]; exact c2
    · rw [getD_set_other (show (163 : Nat) ≠ 17 from by decide), getD_set_other (show (163 : Nat) ≠ 16 from by decide), getD_set_other (show (163 : Nat) ≠ 168 from by decide), getD_set_other (show (163 : Nat) ≠ 167 from by decide), getD_set_other (show (163 : Nat) ≠ 159 from by decide), getD_set_other (show (163 : Nat) ≠ 166 from by decide), getD_set_other (show (163 : Nat) ≠ 165 from by decide), getD_set_other (show (163 : Nat) ≠ 164 from by decide), getD_set_same (show 163 < _ from by simp [hsz])]; exact c3
    · rw [getD_set_other (show (164 : Nat) ≠ 17 from by decide), getD_set_other (show (164 : Nat) ≠ 16 from by decide), getD_set_other (show (164 : Nat) ≠ 168 from by decide), getD_set_other (show (164 : Nat) ≠ 167 from by decide), getD_set_other (show (164 : Nat) ≠ 159 from by decide), getD_set_other (show (164 : Nat) ≠ 166 from by decide), getD_set_other (show (164 : Nat) ≠ 165 from by decide), getD_set_same (show 164 < _ from by simp [hsz])]; exact c4
    · rw [getD_set_other (show (165 : Nat) ≠ 17 from by decide), getD_set_other (show (165 : Nat) ≠ 16 from by decide), getD_set_other (show (165 : Nat) ≠ 168 from by decide), getD_set_other (show (165 : Nat) ≠ 167 from by decide), getD_set_other (show (165 : Nat) ≠ 159 from by decide), getD_set_other (show (165 : Nat) ≠ 166 from by decide), getD_set_same (show 165 < _ from by simp [hsz])]; exact c5
    · rw [getD_set_other (show (166 : Nat) ≠ 17 from by decide), getD_set_other (show (166 : Nat) ≠ 16 from by decide), getD_set_other (show (166 : Nat) ≠ 168 from by decide), getD_set_other (show (166 : Nat) ≠ 167 from by decide), getD_set_other (show (166 : Nat) ≠ 159 from by decide), getD_set_same (show 166 < _ from by simp [hsz])]; exact b0
    · rw [getD_set_other (show (159 : Nat) ≠ 17 from by decide), getD_set_other (show (159 : Nat) ≠ 16 from by decide), getD_set_other (show (159 : Nat) ≠ 168 from by decide), getD_set_other (show (159 : Nat) ≠ 167 from by decide), getD_set_same (show 159 < _ from by simp [hsz])]; exact c7
    · rw [getD_set_other (show (167 : Nat) ≠ 17 from by decide), getD_set_other (show (167 : Nat) ≠ 16 from by decide), getD_set_other (show (167 : Nat) ≠ 168 from by decide), getD_set_same (show 167 < _ from by simp [hsz])]; exact c8
    · rw [getD_set_other (show (168 : Nat) ≠ 17 from by decide), getD_set_other (show (168 : Nat) ≠ 16 from by decide), getD_set_same (show 168 < _ from by simp [hsz])]; exact c9
    · rw [getD_set_other (show (16 : Nat) ≠ 17 from by decide), getD_set_same (show 16 < _ from by simp [hsz])]; exact c10
    · rw [getD_set_same (show 17 < _ from by simp [hsz])]; exact c11
section
variable {o : Oper} {a : Act} {w : World} {K : Act → World → Prop} {Q : Exit → Act → World → Prop}
theorem op_move (q : Nat) (v : Value) (ho : o.op = .move (.tmp q)) (hq : a.tmps.getD q undef = v) (h : K (a.put o.dst v) w) : o.wp Try.prog a w K Q := by
  unfold Oper.wp execOp
  have he : a.eval (.tmp q) = v := hq
  simp only [ho, he]
  go_simp
  exact h
theorem op_assign (q : Nat) (v : Value) (ho : o.op = .assign (.tmp q)) (hq : a.tmps.getD q undef = v) (h : K (a.put o.dst v) w) : o.wp Try.prog a w K Q := by
  unfold Oper.wp execOp
  have he : a.eval (.tmp q) = v := hq
  simp only [ho, he]
  go_simp
  exact h
theorem op_extract0 (q : Nat) (u z : Value) (ho : o.op = .extract (.tmp q) 0) (hq : a.tmps.getD q undef = .tuple #[u, z]) (h : K (a.put o.dst u) w) : o.wp Try.prog a w K Q := by
  unfold Oper.wp execOp
  have he : a.eval (.tmp q) = .tuple #[u, z] := hq
  simp only [ho, he]
  go_simp
  exact h
theorem op_extract1 (q : Nat) (u z : Value) (ho : o.op = .extract (.tmp q) 1) (hq : a.tmps.getD q undef = .tuple #[u, z]) (h : K (a.put o.dst z) w) : o.wp Try.prog a w K Q := by
  unfold Oper.wp execOp
  have he : a.eval (.tmp q) = .tuple #[u, z] := hq
  simp only [ho, he]
  go_simp
  exact h
theorem op_index (q r n c k : Nat) (ad : Addr) (ho : o.op = .indexAddr 22 (.tmp q) (.tmp r)) (hq : a.tmps.getD q undef = .slice (some ad) n c) (hr : a.tmps.getD r undef = .int .i64 (k : Int)) (hk : k < n) (h : K (a.put o.dst (.pointer (some (ad.add k)))) w) : o.wp Try.prog a w K Q := by
  unfold Oper.wp execOp
  have he : a.eval (.tmp q) = .slice (some ad) n c := hq
  have he2 : a.eval (.tmp r) = .int .i64 (k : Int) := hr
  simp only [ho, he, he2]
  go_simp
  exact h
theorem op_load1 (q : Nat) (ad : Addr) (v : Value) (ho : o.op = .load 3 (.tmp q)) (hq : a.tmps.getD q undef = .pointer (some ad)) (hc : w.cell? ad = some v) (h : K (a.put o.dst v) w) : o.wp Try.prog a w K Q := by
  unfold Oper.wp execOp
  have he : a.eval (.tmp q) = .pointer (some ad) := hq
  simp only [ho, he]
  go_simp
  exact h
theorem op_load2 (q g : Nat) (v1 v2 : Value) (ho : o.op = .load 25 (.tmp q)) (hq : a.tmps.getD q undef = .pointer (some ⟨g, 0, none⟩)) (hc : w.cell? ⟨g, 0, none⟩ = some v1) (hc2 : w.cell? ⟨g, 1, none⟩ = some v2) (h : K (a.put o.dst (.agg #[v1, v2])) w) : o.wp Try.prog a w K Q := by
  unfold Oper.wp execOp
  have he : a.eval (.tmp q) = .pointer (some ⟨g, 0, none⟩) := hq
  simp only [ho, he]
  go_simp
  exact h
theorem op_call3 (f : FuncId) (q r s : Nat) (t1 t2 t3 : TypeId) (v1 v2 v3 : Value) (R : Ending → World → Prop) (ho : o.op = .call { callee := .value (.func f), args := #[.tmp q, .tmp r, .tmp s], argTypes := #[t1, t2, t3] }) (hf : f = 33) (h1 : a.tmps.getD q undef = v1) (h2 : a.tmps.getD r undef = v2) (h3 : a.tmps.getD s undef = v3)
    (hc : Calls Try.prog f #[v1, v2, v3] w R) (h : ∀ e w', R e w' → ∃ v, e = .returned v ∧ K (a.put o.dst v) w') : o.wp Try.prog a w K Q := by
  subst hf
  unfold Oper.wp execOp
  have e1 : a.eval (.tmp q) = v1 := h1
  have e2 : a.eval (.tmp r) = v2 := h2
  have e3 : a.eval (.tmp s) = v3 := h3
  simp only [ho]
  go_simp
  refine hc.mono ?_
  intro e w' hR
  obtain ⟨v, rfl, hK⟩ := h e w' hR
  exact hK
end

/-- a change of the book, whole, in whatever later world -/
theorem ch_three {W0 : World} {A : Option Addr} {n c : Nat} {L : List Ch} (h : ChSl W0 W0.heap.size (.slice A n c) L) {i : Nat} (hi : i < n) : ∃ (x : Ch) (ad : Addr) (Af At : Option Addr) (cf ct : Nat), L[i]? = some x ∧ A = some ad ∧
    ∀ Y, Below W0.heap.size W0 Y → (Y.cell? (ad.add (i * 3)) = some (.int .i64 x.yr) ∧ Y.cell? ⟨(ad.add (i * 3)).block, (ad.add (i * 3)).off + 1, none⟩ = some (.slice Af x.fr.length cf) ∧ Y.cell? ⟨(ad.add (i * 3)).block, (ad.add (i * 3)).off + 2, none⟩ = some (.slice At x.to.length ct)) ∧
      InSl Y Y.heap.size (.slice Af x.fr.length cf) x.fr ∧ InSl Y Y.heap.size (.slice At x.to.length ct) x.to := by
  obtain ⟨x, ad, vf, vt, hx, ha, hb, d0, d1, d2, hf, ht⟩ := h.at_ hi
  obtain ⟨Af, cf, rfl, _⟩ := hf.form
  obtain ⟨At, ct, rfl, _⟩ := ht.form
  have hb' : (ad.add (i * 3)).block < W0.heap.size := by rw [add_block]; exact hb
  exact ⟨x, ad, Af, At, cf, ct, hx, ha, fun Y hY => ⟨⟨(hY.cell hb').trans d0, (hY.cell (p := ⟨(ad.add (i * 3)).block, _, none⟩) hb').trans d1, (hY.cell (p := ⟨(ad.add (i * 3)).block, _, none⟩) hb').trans d2⟩, hf.step hY, ht.step hY⟩⟩
/-- a fate, in whatever later world -/
theorem fl_reads {W0 : World} {A : Option Addr} {n c : Nat} {LL : List (List Int)} (h : VsSl W0 W0.heap.size (.slice A n c) LL) (hne : ∀ f ∈ LL, f ≠ []) {i : Nat} (hi : i < n) : ∃ (f : List Int) (ad adf : Addr) (cf : Nat), LL[i]? = some f ∧ A = some ad ∧
    ∀ Y, Below W0.heap.size W0 Y → Y.cell? (ad.add i) = some (.slice (some adf) f.length cf) ∧ (∀ v z, f[v]? = some z → Y.cell? (adf.add v) = some (.int .i64 z)) ∧ InSl Y Y.heap.size (.slice (some adf) f.length cf) f := by
  obtain ⟨ad, u, f, ha, hb, hf, hc, hs⟩ := h.at_ hi
  obtain ⟨Au, cu, rfl, h1, h2, h3⟩ := hs
  have hfm := hne f (List.mem_of_getElem? hf)
  obtain ⟨x, l, rfl⟩ : ∃ x l, f = x :: l := by
    cases f with
    | nil => exact absurd rfl hfm
    | cons x l => exact ⟨x, l, rfl⟩
  obtain ⟨adf, rfl, hbf, _⟩ := h3 0 x rfl
  refine ⟨x :: l, ad, adf, cu, hf, ha, fun Y hY => ⟨(hY.cell (by rw [add_block]; exact hb)).trans hc, fun v z hz => ?_, (show InSl W0 W0.heap.size _ _ from ⟨_, _, rfl, h1, h2, h3⟩).step hY⟩⟩
  obtain ⟨a, ea, hb2, hc2⟩ := h3 v z hz
  injection ea with ea
  subst ea
  exact (hY.cell (by rw [add_block]; exact hb2)).trans hc2
/-- some fate of these goes by a name -/
def fndB (F : List (List Int)) (kk : Nat) (z : Int) (t : List Int) : Bool := t.any fun q => match F[q.toNat]? with | some f => decide (f[kk]? = some z) | none => false
theorem fnd_next {F : List (List Int)} {t : List Int} {kk i j : Nat} {f : List Int} {y z : Int} (ht : t[i]? = some (j : Int)) (hf : F[j]? = some f) (hy : f[kk]? = some y) : fndB F kk z (t.take (i + 1)) = (fndB F kk z (t.take i) || (y == z)) := by
  unfold fndB
  rw [List.take_add_one, ht]
  simp only [Option.toList_some, List.any_append, List.any_cons, List.any_nil, Bool.or_false, Int.toNat_natCast, hf, hy]
  congr 1
  by_cases e : y = z <;> simp [e]
/-- a goal that is reached from something left open -/
structure Lft (P : Prop) : Prop where
  out : P
structure Cut1 (G : Prop) where
  P : Prop
  go : Lft P → G
structure Cut2 (G : Prop) where
  P : Prop
  Q : Prop
  go : Lft P → Lft Q → G
end Go.Proofs.Ytplpogonkfnafaa
