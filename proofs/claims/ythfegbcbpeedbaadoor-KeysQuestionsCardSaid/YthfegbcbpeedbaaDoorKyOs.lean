/- grow: a key of the call's own. -/
import Derived.Test.YthfegbcbpeedbaaDoorKyOq
namespace Go.Proofs.YthfegbcbpeedbaaDoor
open Go.RowKit Go.Nm Go.Ky

/-- v is a slice of these rows, whose lists are as E says -/
def Il2 (X : World) (B : Nat) (E : Rw → Value → Prop) (v : Value) (L : List Rw) : Prop :=
  ∃ A c, v = .slice A L.length c ∧ ∀ (i : Nat) (r : Rw), L[i]? = some r → ∃ ad vm, A = some ad ∧ ad.block < B ∧ X.cell? (ad.add (i * 2)) = some (.int .i64 r.nm) ∧ X.cell? ⟨(ad.add (i * 2)).block, (ad.add (i * 2)).off + 1, none⟩ = some vm ∧ E r vm
theorem Il2.same {X : World} {B n c : Nat} {E : Rw → Value → Prop} {ad : Addr} {L : List Rw} (h : Il2 X B E (.slice (some ad) n c) L) {i : Nat} {r : Rw} (hr : L[i]? = some r) {vm : Value} (hc : X.cell? ⟨(ad.add (i * 2)).block, (ad.add (i * 2)).off + 1, none⟩ = some vm) : E r vm := by
  obtain ⟨A, c', e, h2⟩ := h
  injection e with e1 e2 e3
  subst e1
  obtain ⟨ad', vm', e4, _, _, h5, h6⟩ := h2 i r hr
  injection e4 with e4
  subst e4
  rw [hc] at h5
  injection h5 with h5
  subst h5
  exact h6
theorem Il2.ilSl {X : World} {B : Nat} {E : Rw → Value → Prop} {v : Value} {L : List Rw} (h : Il2 X B E v L) (hE : ∀ r vm, E r vm → InSl X B vm r.may) : IlSl X B v L := by
  obtain ⟨A, c, e, h2⟩ := h
  refine ⟨A, c, e, fun i r hr => ?_⟩
  obtain ⟨ad, vm, e4, h3, h4, h5, h6⟩ := h2 i r hr
  exact ⟨ad, vm, e4, h3, h4, h5, hE r vm h6⟩
theorem Il2.form {X : World} {B : Nat} {E : Rw → Value → Prop} {v : Value} {L : List Rw} (h : Il2 X B E v L) : ∃ A c, v = .slice A L.length c := by
  obtain ⟨A, c, e, _⟩ := h; exact ⟨A, c, e⟩
theorem Il2.nil (X : World) (B : Nat) (E : Rw → Value → Prop) : Il2 X B E (.slice none 0 0) [] := ⟨none, 0, rfl, fun i r h => by simp at h⟩
theorem IlSl.il2 {X : World} {B : Nat} {v : Value} {L : List Rw} (h : IlSl X B v L) : Il2 X B (fun r vm => InSl X B vm r.may) v L := by
  obtain ⟨A, c, e, h2⟩ := h
  exact ⟨A, c, e, h2⟩
/-- a row of rows of the call's own -/
structure RmJ (W : World) (E : Rw → Value → Prop) (L : List Rw) (vals : List Value) (vs : Value) (X : World) : Prop where
  bel : Below W.heap.size W X
  own : X.ownsRow W.heap.size 35 2 vs L.length vals
  ele : Els E L vals
section
variable {W : World} {E : Rw → Value → Prop} {L : List Rw} {vals : List Value} {vs : Value} {X Y : World}
theorem RmJ.start (W : World) : RmJ W E [] [] (.slice none 0 0) W := ⟨Below.refl _ _, World.ownsRow_nil _ _ _ _, Els.nil _⟩
theorem RmJ.step (h : RmJ W E L vals vs X) (hb : Below X.heap.size X Y) : RmJ W E L vals vs Y := ⟨h.bel.trans (hb.mono h.bel.size), own_step h.own hb, h.ele⟩
theorem RmJ.il2 (h : RmJ W E L vals vs X) : Il2 X X.heap.size E vs L := by
  rcases h.own.2 with ⟨e, h0⟩ | ⟨g, cap, cur, e, hb, hg, h1, h2, h3, h4⟩
  · have hl := List.length_eq_zero_iff.1 h0
    subst hl
    rw [e]
    exact Il2.nil _ _ _
  · refine ⟨_, _, e, fun i x hx => ?_⟩
    obtain ⟨vm, c0, c1, hv⟩ := h.ele.2 i x hx
    have hc := h.own.cells (g := g) (by rw [e]; rfl)
    refine ⟨⟨g, 0, none⟩, vm, rfl, (Array.getElem?_eq_some_iff.1 hg).1, ?_, ?_, hv⟩
    · exact hc (i * 2) _ c0
    · rw [add_zero_k]
      have := hc (i * 2 + 1) _ c1
      rw [add_zero_k] at this
      exact this
theorem RmJ.slice (h : RmJ W E L vals vs X) : ∃ A n c, vs = .slice A n c := by
  obtain ⟨A, c, e⟩ := h.il2.form
  exact ⟨A, _, c, e⟩
theorem RmJ.lt (h : RmJ W E L vals vs X) {g : Nat} (e : vs.ownBlock = some g) : W.heap.size ≤ g ∧ g < X.heap.size := h.own.lt g e
theorem wpList_app_rj {ops : Array Oper} {rest : List Oper} {o : Oper} {a : Act} {Q : Exit → Act → World → Prop} {w : World} {Am : Option Addr} {cm : Nat} (hgd : o.guard = none) (s x : Operand) (ho : o.op = .call { callee := .builtin .append, args := #[s, x], argTypes := #[23, 23] })
    {r : Rw} (hs : a.eval s = vs) (h : RmJ W E L vals vs w) (g : Nat) (hx : a.eval x = .slice (some ⟨g, 0, none⟩) 1 1) (hc : w.heap[g]? = some (.cells #[.int .i64 r.nm, .slice Am r.may.length cm] 35)) (hr : E r (.slice Am r.may.length cm)) (hn : L.length ≤ 100000)
    (hK : ∀ v' w', RmJ W E (L ++ [r]) (vals ++ [.int .i64 r.nm, .slice Am r.may.length cm]) v' w' → wpList Tryd.prog ops Q rest (a.put o.dst v') w') : wpList Tryd.prog ops Q (o :: rest) a w := by
  refine wpList_plain hgd fun _ hK2 => ?_
  obtain ⟨i0, hi0, hz0, hz1, hz2⟩ := infoR
  obtain ⟨v', w', hr', h2, h3, _, h5⟩ := run_append_own_at (P := Tryd.prog) (w := w) W.heap.size 23 o.type 35 i0 _ 2 32 Tryd.underlying23 hi0 hz0 hz1 hz2 rfl (by decide) vs L.length vals h.own ⟨g, 0, none⟩ 1 1 [.int .i64 r.nm, .slice Am r.may.length cm] rfl
    (fun j u hj => by rw [add_zero_k]; simpa [World.cell?, hc] using hj) (fun u hu => by simp at hu; rcases hu with rfl | rfl <;> rfl) (by unfold maxLen; omega) (by omega) h.bel.size
  unfold Oper.wp execOp
  simp only [ho, resolve, invoke, builtin, Sem.run_bind, Sem.run_pure, Result.andThen_ok, List.map_toArray, List.map_cons, List.map_nil, hs, hx, hr']
  exact hK2 _ _ (hK v' w' ⟨h.bel.grown h3 h.bel.size fun q e => (h.own.lt q e).1, by rw [List.length_append]; exact h2, h.ele.snoc hr⟩)
end
set_option maxRecDepth 100000 in
set_option maxHeartbeats 8000000 in
theorem remaining2_any (E : Rw → Value → Prop) (v u : Value) (L : List Rw) (l : List Int) (w : World) (hq : Il2 w w.heap.size E v L) (hv : IlSl w w.heap.size v L) (hu : InSl w w.heap.size u l) (hlen : ∀ r ∈ L, l.length = r.may.length) (hn : L.length ≤ 1000) (hl : l.length ≤ 1000000) :
    Calls Tryd.prog 74 #[v, u] w fun e w' => (∃ vs, e = .returned vs ∧ Il2 w' w'.heap.size E vs (remL L l) ∧ ∀ g, vs.ownBlock = some g → w.heap.size ≤ g ∧ g < w'.heap.size) ∧ Below w.heap.size w w' := by
  have HU := Lib.hid hv
  have HQ2 := Lib.hid hq
  have HT := Lib.hid hu
  have HLn := Lib.hid hlen
  have HLl := Lib.hid hl
  obtain ⟨A, c, rfl⟩ := hv.form
  obtain ⟨Au, cu, rfl, _⟩ := hu.form
  obtain ⟨n, h⟩ : ∃ n, L.length = n := ⟨_, rfl⟩
  have HN := Lib.hid h
  obtain ⟨nl, h2⟩ : ∃ nl, l.length = nl := ⟨_, rfl⟩
  rw [h] at HU hn ⊢
  rw [h2] at HT ⊢
  have HR := Lib.hid (show remL L l = L.filter (fun r => fitsF r.may l) from rfl)
  obtain ⟨res, hres⟩ : ∃ res, remL L l = res := ⟨_, rfl⟩
  rw [hres] at HR ⊢
  have HI0 := Lib.hid (RmJ.start (E := E) w)
  clear hv hq hu hlen hl h h2 hres
  go_enter Tryd.func74, Tryd.ntmps74
  go_wp2_with fail
  go_loopw [5, 10] (fun ov iv wr => ∃ (i : Nat) (vals : List Value) (Ao : Option Addr) (no co : Nat), ov = .slice Ao no co ∧ iv = .int .i64 (i : Int) ∧ i ≤ n ∧ RmJ w E ((L.take i).filter fun r => fitsF r.may l) vals ov wr) (fun _ iv _ => n - (intOf iv).toNat)
  case atStart => exact ⟨0, [], _, _, _, rfl, rfl, by omega, HI0.out⟩
  case round =>
    obtain ⟨i, vals, Ao, no, co, rfl, rfl, hin, hI⟩ := hrel
    have HI := Lib.hid hI
    clear hI
    by_cases hlt : i < n
    · obtain ⟨r, ad, Am, cm, hr, rfl, hY⟩ := HU.out.at_ hlt
      obtain ⟨⟨d0, d1⟩, _⟩ := hY wr HI.out.bel
      have HMw := Lib.hid (show E r (.slice Am r.may.length cm) from HQ2.out.same hr (hY w (Below.refl _ _)).1.2)
      have hbx := below_new (w := wr) (.cells #[.int .i64 r.nm, .slice Am r.may.length cm] 35)
      have hnx := World.alloc_heap_new wr (.cells #[.int .i64 r.nm, .slice Am r.may.length cm] 35)
      have HNx := Lib.hid hnx
      have HI2 := Lib.hid (HI.out.step hbx)
      have HFi := Lib.hid (fits_any _ _ r l _ ⟨Am, cm, rfl, (hY _ HI2.out.bel).2⟩ (HT.out.step HI2.out.bel) (HLn.out r (List.mem_of_getElem? hr)) HLl.out)
      have HQ := Lib.hid hr
      have HLq := Lib.hid (show ((L.take i).filter fun r => fitsF r.may l).length ≤ 100000 from by
        have h1 := List.length_filter_le (fun r : Rw => fitsF r.may l) (L.take i)
        have h2 := List.length_take_le i L
        omega)
      have hgx : wr.heap.size < (wr.alloc (.cells #[.int .i64 r.nm, .slice Am r.may.length cm] 35)).heap.size := (Array.getElem?_eq_some_iff.1 hnx).1
      clear hr hY hbx hnx
      go_wp2_with fail
      (with_reducible refine HFi.out.mono ?_)
      rintro e w3 ⟨rfl, hb⟩
      have HI3 := Lib.hid (HI2.out.step hb)
      have hn3 := (hb.block _ hgx).trans HNx.out
      obtain ⟨k0, k1⟩ := cells_two hn3
      clear hb HFi d0 d1 hn3 hgx
      cases hf : fitsF r.may l with
      | true =>
        have HP := Lib.hid (show (L.take (i + 1)).filter (fun r => fitsF r.may l) = (L.take i).filter (fun r => fitsF r.may l) ++ [r] from by rw [filter_take HQ.out, if_pos hf])
        clear hf
        go_wp2_with (at_builtin; refine wpList_app_rj (Am := Am) (cm := cm) (r := r) rfl _ _ rfl rfl (HI3.out.step (below_new _)) w3.heap.size rfl (World.alloc_heap_new _ _) HMw.out HLq.out ?_; intro v6 w6 hI6; obtain ⟨A6, n6, c6, rfl⟩ := hI6.slice; have HI6 := Lib.hid hI6; clear hI6)
        go_roundw
        case rel => exact ⟨i + 1, _, _, _, _, rfl, by go_num, by omega, by rw [HP.out]; exact HI6.out⟩
        case measure => simp [intOf]; omega
      | false =>
        have HP := Lib.hid (show (L.take (i + 1)).filter (fun r => fitsF r.may l) = (L.take i).filter (fun r => fitsF r.may l) from by rw [filter_take HQ.out, if_neg (by rw [hf]; simp)]; simp)
        clear hf
        go_wp2_with fail
        go_roundw
        case rel => exact ⟨i + 1, _, _, _, _, rfl, by go_num, by omega, by rw [HP.out]; exact HI3.out⟩
        case measure => simp [intOf]; omega
    · obtain rfl : n = i := by omega
      have HF := Lib.hid (show (L.take n).filter (fun r => fitsF r.may l) = res from by rw [HR.out, List.take_of_length_le (by have := HN.out; omega)])
      have HI2 := Lib.hid HI.out
      rw [HF.out] at HI2
      go_wp2_with fail
      go_ret
      exact ⟨⟨_, rfl, HI2.out.il2, fun g e => HI2.out.lt e⟩, HI2.out.bel⟩
end Go.Proofs.YthfegbcbpeedbaaDoor
namespace Go.Proofs.YthfegbcbpeedbaaDoor
open Go.RowKit Go.Nm Go.Ky

/-- only blocks of O turn -/
def Chg (O : Nat → Prop) (X Y : World) : Prop := X.heap.size ≤ Y.heap.size ∧ ∀ i o, X.heap[i]? = some o → ¬ O i → Y.heap[i]? = some o
/-- O' adds to O what is new -/
def Fro (O O' : Nat → Prop) (X : World) : Prop := ∀ g, O' g → O g ∨ X.heap.size ≤ g
/-- a list outside O -/
def Apt (X : World) (O : Nat → Prop) (u : Value) (L : List Int) : Prop := InSl X X.heap.size u L ∧ (L ≠ [] → ∀ g, u.ownBlock = some g → ¬ O g)
section
variable {O O' O'' : Nat → Prop} {X Y Z : World} {u : Value} {L : List Int}
theorem Chg.refl (O : Nat → Prop) (X : World) : Chg O X X := ⟨Nat.le_refl _, fun _ _ h _ => h⟩
theorem Chg.trans2 (h : Chg O X Y) (hf : Fro O O' X) (k : Chg O' Y Z) : Chg O X Z :=
  ⟨Nat.le_trans h.1 k.1, fun i o hi hn => k.2 i o (h.2 i o hi hn) (fun h2 => by
    rcases hf i h2 with h3 | h3
    · exact hn h3
    · have := (Array.getElem?_eq_some_iff.1 hi).1; omega)⟩
theorem Chg.of_below (h : Below X.heap.size X Y) : Chg O X Y := ⟨h.size, fun i _ hi _ => (h.block i (Array.getElem?_eq_some_iff.1 hi).1).trans hi⟩
theorem Chg.of_grown {row : Option Nat} (hg : X.grownBy Y row) (h : ∀ r, row = some r → O r) : Chg O X Y :=
  ⟨hg.size, fun i _ hi hn => (hg.block i (Array.getElem?_eq_some_iff.1 hi).1 (fun e => hn (h i e.symm))).trans hi⟩
theorem Fro.refl (O : Nat → Prop) (X : World) : Fro O O X := fun _ h => .inl h
theorem Fro.trans (h : Fro O O' X) (hs : X.heap.size ≤ Y.heap.size) (k : Fro O' O'' Y) : Fro O O'' X := fun g hg => by
  rcases k g hg with h1 | h1
  · exact h g h1
  · exact .inr (Nat.le_trans hs h1)
theorem Apt.chg (h : Apt X O u L) (hc : Chg O X Y) (hf : Fro O O' X) : Apt Y O' u L := by
  cases L with
  | nil =>
    obtain ⟨⟨A, c, e, h1, h2, h3⟩, _⟩ := h
    exact ⟨⟨A, c, e, h1, h2, InA.nil _ _ _⟩, fun h => absurd rfl h⟩
  | cons x L =>
    have hlt : ∀ g, u.ownBlock = some g → g < X.heap.size := fun g e => h.1.ownLt (by simp) e
    have hno := h.2 (by simp)
    refine ⟨(h.1.keepOwn fun p hp => ?_).mono hc.1, fun _ g e h2 => ?_⟩
    · have h3 := hlt _ hp
      exact World.cell?_of_block ((hc.2 _ _ (Array.getElem?_eq_getElem h3) (hno _ hp)).trans (Array.getElem?_eq_getElem h3).symm)
    · rcases hf g h2 with h3 | h3
      · exact hno g e h3
      · have := hlt g e; omega
theorem Apt.nil (X : World) (O : Nat → Prop) : Apt X O (.slice none 0 0) [] := ⟨InSl.nil _ _, fun h => absurd rfl h⟩
theorem IwI.chg {W : World} {gw n : Nat} {f : Nat → Int} (h : IwI W gw n f X) (hc : Chg O X Y) (hb : Below W.heap.size W Y) (hg : ¬ O gw) : IwI W gw n f Y := by
  obtain ⟨cs, h1, h2⟩ := h.cs
  exact ⟨hb, ⟨cs, hc.2 _ _ h1 hg, h2⟩, h.base⟩
theorem Els.mono {E E' : Rw → Value → Prop} {L : List Rw} {vals : List Value} (h : Els E L vals) (hE : ∀ r vm, E r vm → E' r vm) : Els E' L vals := ⟨h.1, fun i x hx => by
  obtain ⟨vm, h1, h2, h3⟩ := h.2 i x hx
  exact ⟨vm, h1, h2, hE x vm h3⟩⟩
end
/-- the blocks of a key of the call's own -/
def Ob (gk : Nat) (rn rl : Option Nat) : Nat → Prop := fun g => g = gk ∨ rn = some g ∨ rl = some g
def LvE (E : List Int → Value → Prop) (LL : List (List Int)) (vals : List Value) : Prop := vals.length = LL.length ∧ ∀ (i : Nat) (l : List Int), LL[i]? = some l → ∃ u, vals[i]? = some u ∧ E l u
theorem LvE.mono {E E' : List Int → Value → Prop} {LL : List (List Int)} {vals : List Value} (h : LvE E LL vals) (hE : ∀ l u, E l u → E' l u) : LvE E' LL vals := ⟨h.1, fun i x hx => by
  obtain ⟨u, h1, h2⟩ := h.2 i x hx
  exact ⟨u, h1, hE x u h2⟩⟩
theorem LvE.snoc {E : List Int → Value → Prop} {LL : List (List Int)} {vals : List Value} (h : LvE E LL vals) {l : List Int} {u : Value} (hu : E l u) : LvE E (LL ++ [l]) (vals ++ [u]) := by
  refine ⟨by simp [h.1], fun i x hx => ?_⟩
  by_cases hi : i < LL.length
  · rw [List.getElem?_append_left hi] at hx
    obtain ⟨u', h1, h2⟩ := h.2 i x hx
    exact ⟨u', (List.getElem?_append_left (by rw [h.1]; exact hi)).trans h1, h2⟩
  · rw [List.getElem?_append_right (by omega)] at hx
    have e1 : i - LL.length = 0 := by have := (List.getElem?_eq_some_iff.1 hx).1; simp at this; omega
    rw [e1] at hx
    simp at hx
    subst hx
    refine ⟨u, ?_, hu⟩
    rw [List.getElem?_append_right (by rw [h.1]; omega), h.1, e1]
    rfl
/-- .. and what is kept free -/
def Orr (R O : Nat → Prop) : Nat → Prop := fun g => O g ∨ R g
structure KgS (R : Nat → Prop) (W : World) (gk : Nat) (k : Kx) (vn vl : Value) (X : World) : Prop where
  bel : Below W.heap.size W X
  lo : W.heap.size ≤ gk
  box : X.heap[gk]? = some (.cells #[vn, vl] 53)
  own : ∃ nvals, X.ownsRow W.heap.size 65 2 vn k.nd.length nvals ∧ Els (fun r vm => Apt X (Orr R (Ob gk vn.ownBlock vl.ownBlock)) vm r.may) k.nd nvals
  lwn : ∃ lvals, X.ownsRow W.heap.size 22 1 vl k.lv.length lvals ∧ LvE (fun l u => Apt X (Orr R (Ob gk vn.ownBlock vl.ownBlock)) u l) k.lv lvals
  ne : vn.ownBlock ≠ some gk ∧ vl.ownBlock ≠ some gk ∧ ∀ g, vn.ownBlock = some g → vl.ownBlock ≠ some g
theorem Apt.chgR {R O O' : Nat → Prop} {X Y : World} {u : Value} {L : List Int} (h : Apt X (Orr R O) u L) (hc : Chg O X Y) (hf : Fro O O' X) : Apt Y (Orr R O') u L :=
  h.chg (O' := Orr R O') ⟨hc.1, fun i o hi hn => hc.2 i o hi (fun h => hn (.inl h))⟩ (fun g hg => by
    rcases hg with h1 | h1
    · rcases hf g h1 with h2 | h2
      · exact .inl (.inl h2)
      · exact .inr h2
    · exact .inl (.inr h1))
section
variable {R : Nat → Prop} {W X Y Z : World} {gk : Nat} {k : Kx} {vn vl : Value}
theorem kept_of {w w' : World} {base size n : Nat} {t : TypeId} {v : Value} {xs : List Value} {row : Option Nat} (h : w.ownsRow base t size v n xs) (hg : w.grownBy w' row) (hr : ∀ r, row = some r → v.ownBlock ≠ some r) : w'.ownsRow base t size v n xs := by
  refine h.kept hg ?_
  cases hv : v.ownBlock with
  | none => exact .inl rfl
  | some g => exact .inr (fun e => hr g e.symm hv)
theorem KgS.step (h : KgS R W gk k vn vl X) (hb : Below X.heap.size X Y) : KgS R W gk k vn vl Y := by
  obtain ⟨nv, n1, n2⟩ := h.own
  obtain ⟨lv, l1, l2⟩ := h.lwn
  exact ⟨h.bel.trans (hb.mono h.bel.size), h.lo, (hb.block _ (Array.getElem?_eq_some_iff.1 h.box).1).trans h.box, ⟨nv, own_step n1 hb, n2.mono fun r vm ha => ha.chgR (O := Ob gk vn.ownBlock vl.ownBlock) (Chg.of_below hb) (Fro.refl _ _)⟩, ⟨lv, own_step l1 hb, l2.mono fun l u ha => ha.chgR (O := Ob gk vn.ownBlock vl.ownBlock) (Chg.of_below hb) (Fro.refl _ _)⟩, h.ne⟩
theorem KgS.leaf (h : KgS R W gk k vn vl X) {lvals : List Value} {l : List Int} {u vl' : Value} (hE : LvE (fun l u => Apt X (Orr R (Ob gk vn.ownBlock vl.ownBlock)) u l) k.lv lvals) (hg : X.grownBy Y vl.ownBlock) (ho : Y.ownsRow W.heap.size 22 1 vl' (k.lv.length + 1) (lvals ++ [u]))
    (hob : vl'.ownBlock = vl.ownBlock ∨ vl'.ownBlock = some X.heap.size) (hu : Apt X (Orr R (Ob gk vn.ownBlock vl.ownBlock)) u l) :
    Y.heap[gk]? = some (.cells #[vn, vl] 53) ∧ KgS R W gk ⟨k.nd, k.lv ++ [l]⟩ vn vl' (Y.setCell ⟨gk, 1, none⟩ vl') ∧ Chg (Ob gk vn.ownBlock vl.ownBlock) X (Y.setCell ⟨gk, 1, none⟩ vl') ∧ Fro (Ob gk vn.ownBlock vl.ownBlock) (Ob gk vn.ownBlock vl'.ownBlock) X := by
  obtain ⟨nv, n1, n2⟩ := h.own
  obtain ⟨lv, l1, l2⟩ := h.lwn
  have hlt : gk < X.heap.size := (Array.getElem?_eq_some_iff.1 h.box).1
  have hY := (hg.block _ hlt (fun e => h.ne.2.1 e.symm)).trans h.box
  have hs := setCell_grown' Y gk 1 vl'
  have hc : Chg (Ob gk vn.ownBlock vl.ownBlock) X (Y.setCell ⟨gk, 1, none⟩ vl') := (Chg.of_grown hg (fun r e => .inr (.inr e))).trans2 (Fro.refl _ _) (Chg.of_grown hs (fun r e => by cases e; exact .inl rfl))
  have hf : Fro (Ob gk vn.ownBlock vl.ownBlock) (Ob gk vn.ownBlock vl'.ownBlock) X := fun g hg2 => by
    rcases hg2 with h1 | h1 | h1
    · exact .inl (.inl h1)
    · exact .inl (.inr (.inl h1))
    · rcases hob with h2 | h2
      · exact .inl (.inr (.inr (h2.symm.trans h1)))
      · rw [h2] at h1; injection h1 with h1; exact .inr (by omega)
  have hne' : vl'.ownBlock ≠ some gk := by
    rcases hob with h2 | h2
    · rw [h2]; exact h.ne.2.1
    · rw [h2]; intro e; injection e with e; omega
  have hdis : ∀ g, vn.ownBlock = some g → vl'.ownBlock ≠ some g := fun g e => by
    rcases hob with h2 | h2
    · rw [h2]; exact h.ne.2.2 g e
    · rw [h2]; intro e2; injection e2 with e2; have := (n1.lt g e).2; omega
  refine ⟨hY, ⟨(h.bel.grown hg h.bel.size (fun r e => (l1.lt r e).1)).setCell h.lo _, h.lo, heap_setCell_same Y gk 1 _ _ vl' hY, ⟨nv, kept_of (kept_of n1 hg (fun r e e2 => h.ne.2.2 r e2 e)) hs (fun r e => by cases e; exact h.ne.1), n2.mono fun r vm ha => ha.chgR hc hf⟩,
    ⟨lvals ++ [u], kept_of (by rw [List.length_append]; exact ho) hs (fun r e => by cases e; exact hne'), LvE.mono (hE.snoc hu) fun l u ha => ha.chgR hc hf⟩, h.ne.1, hne', hdis⟩, hc, hf⟩
theorem KgS.node (h : KgS R W gk k vn vl X) {nvals : List Value} {c : Int} {vn' : Value} (hE : Els (fun r vm => Apt X (Orr R (Ob gk vn.ownBlock vl.ownBlock)) vm r.may) k.nd nvals) (hg : X.grownBy Y vn.ownBlock) (ho : Y.ownsRow W.heap.size 65 2 vn' (k.nd.length + 1) (nvals ++ [.int .i64 c, .slice none 0 0]))
    (hob : vn'.ownBlock = vn.ownBlock ∨ vn'.ownBlock = some X.heap.size) :
    Y.heap[gk]? = some (.cells #[vn, vl] 53) ∧ KgS R W gk ⟨k.nd ++ [⟨c, []⟩], k.lv⟩ vn' vl (Y.setCell ⟨gk, 0, none⟩ vn') ∧ Chg (Ob gk vn.ownBlock vl.ownBlock) X (Y.setCell ⟨gk, 0, none⟩ vn') ∧ Fro (Ob gk vn.ownBlock vl.ownBlock) (Ob gk vn'.ownBlock vl.ownBlock) X := by
  obtain ⟨nv, n1, n2⟩ := h.own
  obtain ⟨lv, l1, l2⟩ := h.lwn
  have hlt : gk < X.heap.size := (Array.getElem?_eq_some_iff.1 h.box).1
  have hY := (hg.block _ hlt (fun e => h.ne.1 e.symm)).trans h.box
  have hs := setCell_grown' Y gk 0 vn'
  have hc : Chg (Ob gk vn.ownBlock vl.ownBlock) X (Y.setCell ⟨gk, 0, none⟩ vn') := (Chg.of_grown hg (fun r e => .inr (.inl e))).trans2 (Fro.refl _ _) (Chg.of_grown hs (fun r e => by cases e; exact .inl rfl))
  have hf : Fro (Ob gk vn.ownBlock vl.ownBlock) (Ob gk vn'.ownBlock vl.ownBlock) X := fun g hg2 => by
    rcases hg2 with h1 | h1 | h1
    · exact .inl (.inl h1)
    · rcases hob with h2 | h2
      · exact .inl (.inr (.inl (h2.symm.trans h1)))
      · rw [h2] at h1; injection h1 with h1; exact .inr (by omega)
    · exact .inl (.inr (.inr h1))
  have hne' : vn'.ownBlock ≠ some gk := by
    rcases hob with h2 | h2
    · rw [h2]; exact h.ne.1
    · rw [h2]; intro e; injection e with e; omega
  have hdis : ∀ g, vn'.ownBlock = some g → vl.ownBlock ≠ some g := fun g e e3 => by
    rcases hob with h2 | h2
    · exact h.ne.2.2 g (h2.symm.trans e) e3
    · rw [h2] at e; injection e with e; have := (l1.lt g e3).2; omega
  refine ⟨hY, ⟨(h.bel.grown hg h.bel.size (fun r e => (n1.lt r e).1)).setCell h.lo _, h.lo, heap_setCell_same Y gk 0 _ _ vn' hY, ⟨nvals ++ [.int .i64 c, .slice none 0 0], kept_of (by rw [List.length_append]; exact ho) hs (fun r e => by cases e; exact hne'), (hE.snoc (x := ⟨c, []⟩) (Apt.nil _ _)).mono fun r vm ha => ha.chgR hc hf⟩,
    ⟨lv, kept_of (kept_of l1 hg (fun r e e2 => h.ne.2.2 r e e2)) hs (fun r e => by cases e; exact h.ne.2.1), l2.mono fun l u ha => ha.chgR hc hf⟩, hne', h.ne.2.1, hdis⟩, hc, hf⟩
theorem KgS.next {gn n cap a : Nat} {c : Int} {nx : List Int} {u : Value} (h : KgS R W gk k (.slice (some ⟨gn, 0, none⟩) n cap) vl X) (ha : k.nd[a]? = some ⟨c, []⟩) (hu : Apt X (Orr R (Ob gk (some gn) vl.ownBlock)) u nx) :
    KgS R W gk ⟨k.nd.set a ⟨c, nx⟩, k.lv⟩ (.slice (some ⟨gn, 0, none⟩) n cap) vl (X.setCell ⟨gn, a * 2 + 1, none⟩ u) ∧ Chg (Ob gk (some gn) vl.ownBlock) X (X.setCell ⟨gn, a * 2 + 1, none⟩ u) ∧ (∃ v, X.cell? ⟨gn, a * 2 + 1, none⟩ = some v) ∧ X.frozen? ⟨gn, a * 2 + 1, none⟩ = false := by
  obtain ⟨nv, n1, n2⟩ := h.own
  obtain ⟨lv, l1, l2⟩ := h.lwn
  have hn : n = k.nd.length := by
    rcases n1.2 with ⟨e, _⟩ | ⟨g, cap', cur, e, _⟩
    · cases e
    · injection e
  subst hn
  have hai := (List.getElem?_eq_some_iff.1 ha).1
  have hs := setCell_grown' X gn (a * 2 + 1) u
  have hO : Ob gk (Value.ownBlock (.slice (some ⟨gn, 0, none⟩) k.nd.length cap)) vl.ownBlock = Ob gk (some gn) vl.ownBlock := rfl
  have hc : Chg (Ob gk (some gn) vl.ownBlock) X (X.setCell ⟨gn, a * 2 + 1, none⟩ u) := Chg.of_grown hs (fun r e => by cases e; exact .inr (.inl rfl))
  have hgn : W.heap.size ≤ gn := (n1.lt gn rfl).1
  have hne := h.ne
  have hl2 := n2.1
  obtain ⟨vm0, hv1, hv2, _⟩ := n2.2 a _ ha
  have hcell : X.cell? ⟨gn, a * 2 + 1, none⟩ = some vm0 := by rw [n1.cellAt (a * 2 + 1) (by omega)]; exact hv2
  refine ⟨⟨h.bel.setCell hgn _, h.lo, ?_, ⟨nv.set (a * 2 + 1) u, ?_, ?_⟩, ⟨lv, kept_of l1 hs (fun r e => by cases e; exact hne.2.2 gn rfl), l2.mono fun l u hx => hx.chgR hc (Fro.refl _ _)⟩, hne⟩, hc, ⟨vm0, hcell⟩, n1.frozenAt (a * 2 + 1)⟩
  · exact (hs.block _ (Array.getElem?_eq_some_iff.1 h.box).1 (fun e => hne.1 e.symm)).trans h.box
  · rw [List.length_set]; exact (n1.stored (a * 2 + 1) u).1
  · refine ⟨by rw [List.length_set, List.length_set]; exact hl2, fun i x hx => ?_⟩
    by_cases hia : i = a
    · subst hia
      rw [List.getElem?_set_self hai] at hx
      injection hx with hx
      subst hx
      obtain ⟨vm, h1, h2, h3⟩ := n2.2 i _ ha
      refine ⟨u, ?_, ?_, hu.chgR hc (Fro.refl _ _)⟩
      · rw [List.getElem?_set_ne (by omega)]; exact h1
      · rw [List.getElem?_set_self (by omega)]
    · rw [List.getElem?_set_ne (fun e => hia e.symm)] at hx
      obtain ⟨vm, h1, h2, h3⟩ := n2.2 i _ hx
      refine ⟨vm, ?_, ?_, h3.chgR hc (Fro.refl _ _)⟩
      · rw [List.getElem?_set_ne (by omega)]; exact h1
      · rw [List.getElem?_set_ne (by omega)]; exact h2
theorem KgS.less {R' : Nat → Prop} (h : KgS R' W gk k vn vl X) (hR : ∀ g, R g → R' g) : KgS R W gk k vn vl X := by
  obtain ⟨nv, n1, n2⟩ := h.own
  obtain ⟨lv, l1, l2⟩ := h.lwn
  have key : ∀ {u : Value} {L : List Int}, Apt X (Orr R' (Ob gk vn.ownBlock vl.ownBlock)) u L → Apt X (Orr R (Ob gk vn.ownBlock vl.ownBlock)) u L := fun ha => ⟨ha.1, fun hn g e h2 => ha.2 hn g e (by
    rcases h2 with h2 | h2
    · exact .inl h2
    · exact .inr (hR g h2))⟩
  exact ⟨h.bel, h.lo, h.box, ⟨nv, n1, n2.mono fun r vm ha => key ha⟩, ⟨lv, l1, l2.mono fun l u ha => key ha⟩, h.ne⟩
theorem KgS.more {g0 : Nat} (h : KgS R W gk k vn vl X) (hg : X.heap.size ≤ g0) : KgS (fun g => R g ∨ g = g0) W gk k vn vl X := by
  obtain ⟨nv, n1, n2⟩ := h.own
  obtain ⟨lv, l1, l2⟩ := h.lwn
  have key : ∀ {u : Value} {L : List Int}, Apt X (Orr R (Ob gk vn.ownBlock vl.ownBlock)) u L → Apt X (Orr (fun g => R g ∨ g = g0) (Ob gk vn.ownBlock vl.ownBlock)) u L := fun ha => ⟨ha.1, fun hn g e h2 => by
    rcases h2 with h2 | h2 | h2
    · exact ha.2 hn g e (.inl h2)
    · exact ha.2 hn g e (.inr h2)
    · have := ha.1.ownLt hn e; omega⟩
  exact ⟨h.bel, h.lo, h.box, ⟨nv, n1, n2.mono fun r vm ha => key ha⟩, ⟨lv, l1, l2.mono fun l u ha => key ha⟩, h.ne⟩
theorem KgS.outR {row : Option Nat} (h : KgS R W gk k vn vl X) (hg : X.grownBy Y row) (hr : ∀ g, row = some g → R g ∧ W.heap.size ≤ g ∧ ¬ Ob gk vn.ownBlock vl.ownBlock g) : KgS R W gk k vn vl Y := by
  obtain ⟨nv, n1, n2⟩ := h.own
  obtain ⟨lv, l1, l2⟩ := h.lwn
  have hc : Chg (Orr R (Ob gk vn.ownBlock vl.ownBlock)) X Y := Chg.of_grown hg (fun g e => .inr (hr g e).1)
  exact ⟨h.bel.grown hg h.bel.size (fun g e => (hr g e).2.1), h.lo, (hg.block _ (Array.getElem?_eq_some_iff.1 h.box).1 (fun e => (hr _ e.symm).2.2 (.inl rfl))).trans h.box,
    ⟨nv, kept_of n1 hg (fun g e e2 => (hr g e).2.2 (.inr (.inl e2))), n2.mono fun r vm ha => ha.chg hc (Fro.refl _ _)⟩, ⟨lv, kept_of l1 hg (fun g e e2 => (hr g e).2.2 (.inr (.inr e2))), l2.mono fun l u ha => ha.chg hc (Fro.refl _ _)⟩, h.ne⟩
end
end Go.Proofs.YthfegbcbpeedbaaDoor
