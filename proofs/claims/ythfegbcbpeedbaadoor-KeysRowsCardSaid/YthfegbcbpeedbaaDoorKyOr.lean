/- remaining: where the lists lie. -/
import Derived.Test.YthfegbcbpeedbaaDoorKyOq
namespace Go.Proofs.YthfegbcbpeedbaaDoor
open Go.RowKit Go.Nm Go.Ky

/-- v is a slice of these rows, whose lists are as E says -/
def Il2 (X : World) (B : Nat) (E : Rw → Value → Prop) (v : Value) (L : List Rw) : Prop :=
  ∃ A c, v = .slice A L.length c ∧ ∀ (i : Nat) (r : Rw), L[i]? = some r → ∃ ad vm, A = some ad ∧ ad.block < B ∧ X.cell? (ad.add (i * 2)) = some (.int .i64 r.nm) ∧ X.cell? ⟨(ad.add (i * 2)).block, (ad.add (i * 2)).off + 1, none⟩ = some vm ∧ E r vm
theorem Il2.same {X : World} {B n c : Nat} {E : Rw → Value → Prop} {ad : Addr} {L : List Rw} (h : Il2 X B E (.slice (some ad) n c) L) {i : Nat} {r : Rw} (hr : L[i]? = some r) {vm : Value} (hc : X.cell? ⟨(ad.add (i * 2)).block, (ad.add (i * 2)).off + 1, none⟩ = some vm) : E r vm := by
  obtain ⟨A, c', e, h2⟩ := h
  injection e with e1 e2 e3
  subst e1
  obtain ⟨ad', vm', e4, _, _, h5, h6⟩ := h2 i r hr
  injection e4 with e4
  subst e4
  rw [hc] at h5
  injection h5 with h5
  subst h5
  exact h6
theorem Il2.ilSl {X : World} {B : Nat} {E : Rw → Value → Prop} {v : Value} {L : List Rw} (h : Il2 X B E v L) (hE : ∀ r vm, E r vm → InSl X B vm r.may) : IlSl X B v L := by
  obtain ⟨A, c, e, h2⟩ := h
  refine ⟨A, c, e, fun i r hr => ?_⟩
  obtain ⟨ad, vm, e4, h3, h4, h5, h6⟩ := h2 i r hr
  exact ⟨ad, vm, e4, h3, h4, h5, hE r vm h6⟩
theorem Il2.form {X : World} {B : Nat} {E : Rw → Value → Prop} {v : Value} {L : List Rw} (h : Il2 X B E v L) : ∃ A c, v = .slice A L.length c := by
  obtain ⟨A, c, e, _⟩ := h; exact ⟨A, c, e⟩
theorem Il2.nil (X : World) (B : Nat) (E : Rw → Value → Prop) : Il2 X B E (.slice none 0 0) [] := ⟨none, 0, rfl, fun i r h => by simp at h⟩
theorem IlSl.il2 {X : World} {B : Nat} {v : Value} {L : List Rw} (h : IlSl X B v L) : Il2 X B (fun r vm => InSl X B vm r.may) v L := by
  obtain ⟨A, c, e, h2⟩ := h
  exact ⟨A, c, e, h2⟩
/-- a row of rows of the call's own -/
structure RmJ (W : World) (E : Rw → Value → Prop) (L : List Rw) (vals : List Value) (vs : Value) (X : World) : Prop where
  bel : Below W.heap.size W X
  own : X.ownsRow W.heap.size 35 2 vs L.length vals
  ele : Els E L vals
section
variable {W : World} {E : Rw → Value → Prop} {L : List Rw} {vals : List Value} {vs : Value} {X Y : World}
theorem RmJ.start (W : World) : RmJ W E [] [] (.slice none 0 0) W := ⟨Below.refl _ _, World.ownsRow_nil _ _ _ _, Els.nil _⟩
theorem RmJ.step (h : RmJ W E L vals vs X) (hb : Below X.heap.size X Y) : RmJ W E L vals vs Y := ⟨h.bel.trans (hb.mono h.bel.size), own_step h.own hb, h.ele⟩
theorem RmJ.il2 (h : RmJ W E L vals vs X) : Il2 X X.heap.size E vs L := by
  rcases h.own.2 with ⟨e, h0⟩ | ⟨g, cap, cur, e, hb, hg, h1, h2, h3, h4⟩
  · have hl := List.length_eq_zero_iff.1 h0
    subst hl
    rw [e]
    exact Il2.nil _ _ _
  · refine ⟨_, _, e, fun i x hx => ?_⟩
    obtain ⟨vm, c0, c1, hv⟩ := h.ele.2 i x hx
    have hc := h.own.cells (g := g) (by rw [e]; rfl)
    refine ⟨⟨g, 0, none⟩, vm, rfl, (Array.getElem?_eq_some_iff.1 hg).1, ?_, ?_, hv⟩
    · exact hc (i * 2) _ c0
    · rw [add_zero_k]
      have := hc (i * 2 + 1) _ c1
      rw [add_zero_k] at this
      exact this
theorem RmJ.slice (h : RmJ W E L vals vs X) : ∃ A n c, vs = .slice A n c := by
  obtain ⟨A, c, e⟩ := h.il2.form
  exact ⟨A, _, c, e⟩
theorem RmJ.lt (h : RmJ W E L vals vs X) {g : Nat} (e : vs.ownBlock = some g) : W.heap.size ≤ g ∧ g < X.heap.size := h.own.lt g e
theorem wpList_app_rj {ops : Array Oper} {rest : List Oper} {o : Oper} {a : Act} {Q : Exit → Act → World → Prop} {w : World} {Am : Option Addr} {cm : Nat} (hgd : o.guard = none) (s x : Operand) (ho : o.op = .call { callee := .builtin .append, args := #[s, x], argTypes := #[23, 23] })
    {r : Rw} (hs : a.eval s = vs) (h : RmJ W E L vals vs w) (g : Nat) (hx : a.eval x = .slice (some ⟨g, 0, none⟩) 1 1) (hc : w.heap[g]? = some (.cells #[.int .i64 r.nm, .slice Am r.may.length cm] 35)) (hr : E r (.slice Am r.may.length cm)) (hn : L.length ≤ 100000)
    (hK : ∀ v' w', RmJ W E (L ++ [r]) (vals ++ [.int .i64 r.nm, .slice Am r.may.length cm]) v' w' → wpList Tryd.prog ops Q rest (a.put o.dst v') w') : wpList Tryd.prog ops Q (o :: rest) a w := by
  refine wpList_plain hgd fun _ hK2 => ?_
  obtain ⟨i0, hi0, hz0, hz1, hz2⟩ := infoR
  obtain ⟨v', w', hr', h2, h3, _, h5⟩ := run_append_own_at (P := Tryd.prog) (w := w) W.heap.size 23 o.type 35 i0 _ 2 32 Tryd.underlying23 hi0 hz0 hz1 hz2 rfl (by decide) vs L.length vals h.own ⟨g, 0, none⟩ 1 1 [.int .i64 r.nm, .slice Am r.may.length cm] rfl
    (fun j u hj => by rw [add_zero_k]; simpa [World.cell?, hc] using hj) (fun u hu => by simp at hu; rcases hu with rfl | rfl <;> rfl) (by unfold maxLen; omega) (by omega) h.bel.size
  unfold Oper.wp execOp
  simp only [ho, resolve, invoke, builtin, Sem.run_bind, Sem.run_pure, Result.andThen_ok, List.map_toArray, List.map_cons, List.map_nil, hs, hx, hr']
  exact hK2 _ _ (hK v' w' ⟨h.bel.grown h3 h.bel.size fun q e => (h.own.lt q e).1, by rw [List.length_append]; exact h2, h.ele.snoc hr⟩)
end
set_option maxRecDepth 100000 in
set_option maxHeartbeats 8000000 in
theorem remaining2_any (E : Rw → Value → Prop) (v u : Value) (L : List Rw) (l : List Int) (w : World) (hq : Il2 w w.heap.size E v L) (hv : IlSl w w.heap.size v L) (hu : InSl w w.heap.size u l) (hlen : ∀ r ∈ L, l.length = r.may.length) (hn : L.length ≤ 1000) (hl : l.length ≤ 1000000) :
    Calls Tryd.prog 74 #[v, u] w fun e w' => (∃ vs, e = .returned vs ∧ Il2 w' w'.heap.size E vs (remL L l) ∧ ∀ g, vs.ownBlock = some g → w.heap.size ≤ g ∧ g < w'.heap.size) ∧ Below w.heap.size w w' := by
  have HU := Lib.hid hv
  have HQ2 := Lib.hid hq
  have HT := Lib.hid hu
  have HLn := Lib.hid hlen
  have HLl := Lib.hid hl
  obtain ⟨A, c, rfl⟩ := hv.form
  obtain ⟨Au, cu, rfl, _⟩ := hu.form
  obtain ⟨n, h⟩ : ∃ n, L.length = n := ⟨_, rfl⟩
  have HN := Lib.hid h
  obtain ⟨nl, h2⟩ : ∃ nl, l.length = nl := ⟨_, rfl⟩
  rw [h] at HU hn ⊢
  rw [h2] at HT ⊢
  have HR := Lib.hid (show remL L l = L.filter (fun r => fitsF r.may l) from rfl)
  obtain ⟨res, hres⟩ : ∃ res, remL L l = res := ⟨_, rfl⟩
  rw [hres] at HR ⊢
  have HI0 := Lib.hid (RmJ.start (E := E) w)
  clear hv hq hu hlen hl h h2 hres
  go_enter Tryd.func74, Tryd.ntmps74
  go_wp2_with fail
  go_loopw [5, 10] (fun ov iv wr => ∃ (i : Nat) (vals : List Value) (Ao : Option Addr) (no co : Nat), ov = .slice Ao no co ∧ iv = .int .i64 (i : Int) ∧ i ≤ n ∧ RmJ w E ((L.take i).filter fun r => fitsF r.may l) vals ov wr) (fun _ iv _ => n - (intOf iv).toNat)
  case atStart => exact ⟨0, [], _, _, _, rfl, rfl, by omega, HI0.out⟩
  case round =>
    obtain ⟨i, vals, Ao, no, co, rfl, rfl, hin, hI⟩ := hrel
    have HI := Lib.hid hI
    clear hI
    by_cases hlt : i < n
    · obtain ⟨r, ad, Am, cm, hr, rfl, hY⟩ := HU.out.at_ hlt
      obtain ⟨⟨d0, d1⟩, _⟩ := hY wr HI.out.bel
      have HMw := Lib.hid (show E r (.slice Am r.may.length cm) from HQ2.out.same hr (hY w (Below.refl _ _)).1.2)
      have hbx := below_new (w := wr) (.cells #[.int .i64 r.nm, .slice Am r.may.length cm] 35)
      have hnx := World.alloc_heap_new wr (.cells #[.int .i64 r.nm, .slice Am r.may.length cm] 35)
      have HNx := Lib.hid hnx
      have HI2 := Lib.hid (HI.out.step hbx)
      have HFi := Lib.hid (fits_any _ _ r l _ ⟨Am, cm, rfl, (hY _ HI2.out.bel).2⟩ (HT.out.step HI2.out.bel) (HLn.out r (List.mem_of_getElem? hr)) HLl.out)
      have HQ := Lib.hid hr
      have HLq := Lib.hid (show ((L.take i).filter fun r => fitsF r.may l).length ≤ 100000 from by
        have h1 := List.length_filter_le (fun r : Rw => fitsF r.may l) (L.take i)
        have h2 := List.length_take_le i L
        omega)
      have hgx : wr.heap.size < (wr.alloc (.cells #[.int .i64 r.nm, .slice Am r.may.length cm] 35)).heap.size := (Array.getElem?_eq_some_iff.1 hnx).1
      clear hr hY hbx hnx
      go_wp2_with fail
      (with_reducible refine HFi.out.mono ?_)
      rintro e w3 ⟨rfl, hb⟩
      have HI3 := Lib.hid (HI2.out.step hb)
      have hn3 := (hb.block _ hgx).trans HNx.out
      obtain ⟨k0, k1⟩ := cells_two hn3
      clear hb HFi d0 d1 hn3 hgx
      cases hf : fitsF r.may l with
      | true =>
        have HP := Lib.hid (show (L.take (i + 1)).filter (fun r => fitsF r.may l) = (L.take i).filter (fun r => fitsF r.may l) ++ [r] from by rw [filter_take HQ.out, if_pos hf])
        clear hf
        go_wp2_with (at_builtin; refine wpList_app_rj (Am := Am) (cm := cm) (r := r) rfl _ _ rfl rfl (HI3.out.step (below_new _)) w3.heap.size rfl (World.alloc_heap_new _ _) HMw.out HLq.out ?_; intro v6 w6 hI6; obtain ⟨A6, n6, c6, rfl⟩ := hI6.slice; have HI6 := Lib.hid hI6; clear hI6)
        go_roundw
        case rel => exact ⟨i + 1, _, _, _, _, rfl, by go_num, by omega, by rw [HP.out]; exact HI6.out⟩
        case measure => simp [intOf]; omega
      | false =>
        have HP := Lib.hid (show (L.take (i + 1)).filter (fun r => fitsF r.may l) = (L.take i).filter (fun r => fitsF r.may l) from by rw [filter_take HQ.out, if_neg (by rw [hf]; simp)]; simp)
        clear hf
        go_wp2_with fail
        go_roundw
        case rel => exact ⟨i + 1, _, _, _, _, rfl, by go_num, by omega, by rw [HP.out]; exact HI3.out⟩
        case measure => simp [intOf]; omega
    · obtain rfl : n = i := by omega
      have HF := Lib.hid (show (L.take n).filter (fun r => fitsF r.may l) = res from by rw [HR.out, List.take_of_length_le (by have := HN.out; omega)])
      have HI2 := Lib.hid HI.out
      rw [HF.out] at HI2
      go_wp2_with fail
      go_ret
      exact ⟨⟨_, rfl, HI2.out.il2, fun g e => HI2.out.lt e⟩, HI2.out.bel⟩
end Go.Proofs.YthfegbcbpeedbaaDoor
