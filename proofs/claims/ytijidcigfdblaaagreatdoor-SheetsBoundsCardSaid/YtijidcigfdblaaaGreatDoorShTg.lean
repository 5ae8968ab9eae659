/- A line of a text is taken: the program. -/
import Derived.Test.YtijidcigfdblaaaGreatDoorShTf
namespace Go.Sh
theorem splitC_len (c : UInt8) : ∀ (l : List UInt8), (splitC c l).length ≤ l.length + 1 ∧ ∀ f ∈ splitC c l, f.length ≤ l.length
  | [] => by simp [splitC]
  | b :: l => by
    obtain ⟨h1, h2⟩ := splitC_len c l
    unfold splitC
    split
    · refine ⟨by simp; omega, fun f hf => ?_⟩
      rcases List.mem_cons.1 hf with rfl | hf
      · simp
      · have := h2 f hf; simp; omega
    · split
      · rename_i h3
        exact absurd h3 (splitC_ne c l)
      · rename_i f r h3
        rw [h3] at h1 h2
        refine ⟨by simp at h1 ⊢; omega, fun g hg => ?_⟩
        rcases List.mem_cons.1 hg with rfl | hg
        · have := h2 f (by simp); simp; omega
        · have := h2 g (by simp [hg]); simp; omega
end Go.Sh
namespace Go.Proofs.YtijidcigfdblaaaGreatDoor
open Go.RowKit Go.Nm Go.Sh Go.Plc

def rdTk (r : Rd) (n : Int) : Rd := ⟨r.pg, n, r.dn⟩
def rdDn (r : Rd) : Rd := ⟨r.pg, r.tk, true⟩
theorem RdI.tick {W : World} {rb T : Nat} {r : Rd} {vs : Value} {X : World} (h : RdI W rb T r vs X) (n : Int) : RdI W rb T (rdTk r n) vs (X.setCell ⟨rb, 10, none⟩ (.int .i64 n)) := by
  obtain ⟨vals, hl⟩ := h.lo
  exact ⟨by rw [put_cell h.box]; rfl, ⟨vals, hl.other (setCell_grown' _ _ _ _) h.b0 h.b1⟩, h.b0, h.b1⟩
theorem RdI.over {W : World} {rb T : Nat} {r : Rd} {vs : Value} {X : World} (h : RdI W rb T r vs X) : RdI W rb T (rdDn r) vs (X.setCell ⟨rb, 11, none⟩ (.bool true)) := by
  obtain ⟨vals, hl⟩ := h.lo
  exact ⟨by rw [put_cell h.box]; rfl, ⟨vals, hl.other (setCell_grown' _ _ _ _) h.b0 h.b1⟩, h.b0, h.b1⟩
theorem TkR.first {W : World} {rb T : Nat} {r : Rd} {vs : Value} {q q' : Option Rd} {w w1 w2 : World} {e : Ending} (hb : Below w.heap.size w w1) (h : TkR W rb T r vs q w1 e w2) (hq : q = q') : TkR W rb T r vs q' w e w2 := by
  subst hq
  obtain ⟨h1, h2⟩ := h
  refine ⟨(RdK.of_below hb).trans h1 (.inl rfl), h2.imp (fun ⟨r', vs', a, b, c, d⟩ => ⟨r', vs', a, b, c, d.imp id fun ⟨k, e1, e2⟩ => ⟨k, e1, Nat.le_trans hb.size e2⟩⟩) id⟩
theorem tk_end {W : World} {rb T : Nat} {r r2 : Rd} {vs vs' : Value} {w w2 : World} (hk : RdK rb vs.ownBlock w w2) (hd : RdI W rb T r2 vs' w2) (ho : vs'.ownBlock = vs.ownBlock ∨ ∃ k, vs'.ownBlock = some k ∧ w.heap.size ≤ k) (n : Int) {q : Option Rd} (hq : q = some (rdTk r2 n)) :
    TkR W rb T r vs q w (.returned (.bool true)) (w2.setCell ⟨rb, 10, none⟩ (.int .i64 n)) :=
  ⟨hk.trans (RdK.of_grown (ow := vs.ownBlock) (setCell_grown' w2 rb 10 (.int .i64 n))) (.inl rfl), .inl ⟨_, vs', hq, rfl, hd.tick n, ho⟩⟩
set_option maxRecDepth 100000 in
set_option maxHeartbeats 16000000 in
theorem take_any (W w : World) (rb T : Nat) (r : Rd) (vs : Value) (line : List UInt8) (hd : RdI W rb T r vs w) (hpg : r.tk = 0 → r.pg = pg0) (hl : line.length ≤ 90000) (hlen : r.pg.ls.length ≤ 200) (ht0 : 0 ≤ r.tk) (ht1 : r.tk ≤ 1000000) (hG : GlO W) :
    Calls Tryz.prog 90 #[.pointer (some ⟨rb, 0, none⟩), str line] w (TkR W rb T r vs (rdStep r line) w) := by
  have hGw := hG.below hd.bel
  have HSp := Lib.hid (Split_any line w (by omega) hGw)
  obtain ⟨hfn, hfl⟩ := splitC_len 32 line
  have hne := splitC_ne 32 line
  obtain ⟨fs, hfs⟩ : ∃ fs, splitC 32 line = fs := ⟨_, rfl⟩
  have HQs := Lib.hid (show rdStep r line = if r.dn = true then none else if r.tk = 0 then (match hdR fs with | none => none | some p => some ⟨p, r.tk + 1, r.dn⟩) else if line = enW then some ⟨r.pg, r.tk + 1, true⟩ else (match lnR fs with | none => none | some x => if r.pg.ls.length = 200 then none else some ⟨r.pg.add x, r.tk + 1, r.dn⟩) from by rw [← hfs]; rfl)
  obtain ⟨qs, hqs⟩ : ∃ q, rdStep r line = q := ⟨_, rfl⟩
  rw [hqs] at HQs ⊢
  rw [hfs] at HSp hfn hfl hne
  have hbn := below_new (w := w) (.cells (strVs fs) 9)
  have hnn := World.alloc_heap_new w (.cells (strVs fs) 9)
  obtain ⟨w1, hw1⟩ : ∃ X, w.alloc (.cells (strVs fs) 9) = X := ⟨_, rfl⟩
  rw [hw1] at HSp hbn hnn
  have hd1 := hd.step hbn
  have HD1 := Lib.hid hd1
  have HBn := Lib.hid hbn
  obtain ⟨_, k10, k11⟩ := rd_cells hd1.box
  have f10 := frozen_cells hd1.box 10
  have f11 := frozen_cells hd1.box 11
  have hrb := hd.lt
  have hrw : IntKind.i64.wrap (r.tk + 1) = r.tk + 1 := by rw [IntKind.wrap_i64]; omega
  obtain ⟨sl, hsl⟩ : ∃ s : ByteArray, (⟨line.toArray⟩ : ByteArray) = s := ⟨_, rfl⟩
  have HEn := Lib.hid (show (line = enW → sl = ⟨#[101, 110, 100]⟩) ∧ (line ≠ enW → (sl.toList == [101, 110, 100]) = false) from ⟨fun h => by rw [← hsl, h]; rfl, fun h => by
    have h2 := ba_ne (a := sl) (b := ⟨#[101, 110, 100]⟩) (fun e => h (str_inj (b := enW) (hsl.trans e)))
    rw [show (⟨#[101, 110, 100]⟩ : ByteArray).toList = [101, 110, 100] from by rw [ByteArray.toList_eq]] at h2
    exact h2⟩)
  unfold str at HSp ⊢
  rw [hsl] at HSp ⊢
  have HHd := Lib.hid (show r.tk = 0 → ∀ f0 R, fs = f0 :: R → Calls Tryz.prog 147 #[.pointer (some ⟨rb, 0, none⟩), .slice (some ⟨w.heap.size, 0, none⟩) fs.length fs.length] w1 (TkR W rb T r vs (hdStep r fs) w1) from fun h0 f0 R e => by
    rw [e]
    exact takeHead_any W w1 rb T w.heap.size r vs f0 R hd1 (hpg h0) (by rw [← e]; exact hnn) (fun f hf => by have := hfl f (by rw [e]; exact hf); omega) (by rw [e, List.length_cons] at hfn; omega) (by omega) hG)
  have HLn := Lib.hid (show ∀ f0 R, fs = f0 :: R → Calls Tryz.prog 148 #[.pointer (some ⟨rb, 0, none⟩), .slice (some ⟨w.heap.size, 0, none⟩) fs.length fs.length] w1 (TkR W rb T r vs ((lnStep r fs).map (rdAdd r)) w1) from fun f0 R e => by
    rw [e]
    exact takeLine_any W w1 rb T w.heap.size r vs f0 R hd1 (by rw [← e]; exact hnn) (fun f hf => by have := hfl f (by rw [e]; exact hf); omega) (by rw [e, List.length_cons] at hfn; omega) hlen hG)
  obtain ⟨f0, R, hfR⟩ : ∃ f0 R, fs = f0 :: R := by
    cases fs with
    | nil => exact absurd rfl hne
    | cons f0 R => exact ⟨f0, R, rfl⟩
  have HfR := Lib.hid hfR
  obtain ⟨nf, hnf⟩ : ∃ n, fs.length = n := ⟨_, rfl⟩
  rw [hnf] at HSp HHd HLn
  clear hd hpg hl hlen hGw hfn hfl hne hfs hqs hbn hnn hw1 hd1 hrb hsl hfR hnf ht0 ht1 hG
  cases hdn : r.dn with
  | true =>
    rw [hdn] at k11
    have HQ := Lib.hid (show qs = none from by rw [HQs.out, if_pos hdn])
    clear hdn
    go_enter Tryz.func90, Tryz.ntmps90
    go_wp2_with fail
    refine HSp.out.mono ?_
    rintro e w2 ⟨rfl, rfl⟩
    go_wp2_with fail
    go_ret
    exact ⟨RdK.of_below HBn.out, .inr ⟨HQ.out, rfl, (rd_cells HD1.out.box).2.1⟩⟩
  | false =>
    rw [hdn] at k11
    have HQ1 := Lib.hid (show qs = if r.tk = 0 then (match hdR fs with | none => none | some p => some ⟨p, r.tk + 1, r.dn⟩) else if line = enW then some ⟨r.pg, r.tk + 1, true⟩ else (match lnR fs with | none => none | some x => if r.pg.ls.length = 200 then none else some ⟨r.pg.add x, r.tk + 1, r.dn⟩) from by rw [HQs.out, if_neg (by rw [hdn]; simp)])
    clear hdn
    by_cases h0 : r.tk = 0
    · have HQ := Lib.hid (show qs = (hdStep r fs).map (fun r' => rdTk r' (r.tk + 1)) from by
        rw [HQ1.out, if_pos h0]
        unfold hdStep
        cases hdR fs <;> rfl)
      have HC := Lib.hid (HHd.out h0 f0 R HfR.out)
      have ht : (r.tk == 0) = true := by simp [h0]
      rw [h0] at k10
      have hrw1 : IntKind.i64.wrap ((0 : Int) + 1) = 1 := by decide
      have HT0 := Lib.hid h0
      clear h0 ht hrw
      go_enter Tryz.func90, Tryz.ntmps90
      go_wp2_with fail
      refine HSp.out.mono ?_
      rintro e w2 ⟨rfl, rfl⟩
      go_wp2_with fail
      refine HC.out.mono ?_
      rintro e w3 ⟨hk, h⟩
      have HK := Lib.hid ((RdK.of_below (rb := rb) (ow := vs.ownBlock) HBn.out).trans hk (.inl rfl))
      clear k10 k11 f10 f11 hk
      rcases h with ⟨r', vs', hq, rfl, hd3, ho⟩ | ⟨hq, rfl, h10⟩
      · have HD3 := Lib.hid hd3
        have hrt : r'.tk = r.tk := by
          unfold hdStep at hq
          cases hh : hdR fs with
          | none => rw [hh] at hq; cases hq
          | some p => rw [hh] at hq; injection hq with hq; rw [← hq]
        obtain ⟨_, k10, k11⟩ := rd_cells hd3.box
        have f10 := frozen_cells hd3.box 10
        rw [hrt, HT0.out] at k10
        have HQ2 := Lib.hid (show qs = some (rdTk r' 1) from by rw [HQ.out, hq, HT0.out]; rfl)
        have HO := Lib.hid (show vs'.ownBlock = vs.ownBlock ∨ ∃ k, vs'.ownBlock = some k ∧ w.heap.size ≤ k from ho.imp id fun ⟨k, e1, e2⟩ => ⟨k, e1, Nat.le_trans HBn.out.size e2⟩)
        clear hq hd3 ho hrt
        go_wp2_with fail
        go_ret
        exact tk_end HK.out HD3.out HO.out 1 HQ2.out
      · have HQ2 := Lib.hid (show qs = none from by rw [HQ.out, hq]; rfl)
        have H10 := Lib.hid h10
        clear hq h10
        go_wp2_with fail
        go_ret
        exact ⟨HK.out, .inr ⟨HQ2.out, rfl, H10.out⟩⟩
    · have ht : (r.tk == 0) = false := by simpa using h0
      by_cases hen : line = enW
      · have HQ := Lib.hid (show qs = some (rdTk (rdDn r) (r.tk + 1)) from by rw [HQ1.out, if_neg h0, if_pos hen]; rfl)
        have e1 := HEn.out.1 hen
        subst e1
        have hd4 := HD1.out.over
        obtain ⟨_, j10, j11⟩ := rd_cells hd4.box
        have g10 := frozen_cells hd4.box 10
        have j10' : (w1.setCell ⟨rb, 11, none⟩ (.bool true)).cell? ⟨rb, 10, none⟩ = some (.int .i64 r.tk) := j10
        have HD4 := Lib.hid hd4
        have HK := Lib.hid ((RdK.of_below (rb := rb) (ow := vs.ownBlock) HBn.out).trans (RdK.of_grown (ow := vs.ownBlock) (setCell_grown' w1 rb 11 (.bool true))) (.inl rfl))
        clear h0 hen hd4 j10 j11
        go_enter Tryz.func90, Tryz.ntmps90
        go_wp2_with fail
        refine HSp.out.mono ?_
        rintro e w2 ⟨rfl, rfl⟩
        go_wp2_with fail
        go_ret
        exact tk_end HK.out HD4.out (.inl rfl) _ HQ.out
      · have HQ := Lib.hid (show qs = ((lnStep r fs).map (rdAdd r)).map (fun r' => rdTk r' (r.tk + 1)) from by
          rw [HQ1.out, if_neg h0, if_neg hen]
          unfold lnStep
          cases lnR fs with
          | none => rfl
          | some x =>
            simp only
            by_cases h2 : r.pg.ls.length = 200
            · rw [if_pos h2, if_pos h2]; rfl
            · rw [if_neg h2, if_neg h2]; rfl)
        have hen2 := HEn.out.2 hen
        have HC := Lib.hid (HLn.out f0 R HfR.out)
        clear h0 hen
        go_enter Tryz.func90, Tryz.ntmps90
        go_wp2_with fail
        refine HSp.out.mono ?_
        rintro e w2 ⟨rfl, rfl⟩
        go_wp2_with fail
        refine HC.out.mono ?_
        rintro e w3 ⟨hk, h⟩
        have HK := Lib.hid ((RdK.of_below (rb := rb) (ow := vs.ownBlock) HBn.out).trans hk (.inl rfl))
        clear k10 k11 f10 f11 hk
        rcases h with ⟨r', vs', hq, rfl, hd3, ho⟩ | ⟨hq, rfl, h10⟩
        · have HD3 := Lib.hid hd3
          have hrt : r'.tk = r.tk := by
            cases hh : lnStep r fs with
            | none => rw [hh] at hq; cases hq
            | some p => rw [hh] at hq; injection hq with hq; rw [← hq]; rfl
          obtain ⟨_, k10, k11⟩ := rd_cells hd3.box
          have f10 := frozen_cells hd3.box 10
          rw [hrt] at k10
          have HQ2 := Lib.hid (show qs = some (rdTk r' (r.tk + 1)) from by rw [HQ.out, hq]; rfl)
          have HO := Lib.hid (show vs'.ownBlock = vs.ownBlock ∨ ∃ k, vs'.ownBlock = some k ∧ w.heap.size ≤ k from ho.imp id fun ⟨k, e1, e2⟩ => ⟨k, e1, Nat.le_trans HBn.out.size e2⟩)
          clear hq hd3 ho hrt
          go_wp2_with fail
          go_ret
          exact tk_end HK.out HD3.out HO.out _ HQ2.out
        · have HQ2 := Lib.hid (show qs = none from by rw [HQ.out, hq]; rfl)
          have H10 := Lib.hid h10
          clear hq h10
          go_wp2_with fail
          go_ret
          exact ⟨HK.out, .inr ⟨HQ2.out, rfl, H10.out⟩⟩
end Go.Proofs.YtijidcigfdblaaaGreatDoor
