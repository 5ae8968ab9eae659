/- misleads. -/
import Derived.Test.YthfegbcbpeedbaaDoorKyOk
namespace Go.Ky
open Go.Nm
theorem any_take_false {α : Type} {g : α → Bool} {a : List α} {i : Nat} {x : α} (hx : a[i]? = some x) (h : (a.take i).any g = false) (hg : g x = false) : (a.take (i + 1)).any g = false := by
  rw [show a.take (i + 1) = a.take i ++ [x] from by rw [List.take_add_one, hx]; rfl, List.any_append, h]
  simp [hg]
theorem any_true {α : Type} {g : α → Bool} {a : List α} {i : Nat} {x : α} (hx : a[i]? = some x) (h : g x = true) : a.any g = true := List.any_eq_true.2 ⟨x, List.mem_of_getElem? hx, h⟩
theorem any_end {α : Type} {g : α → Bool} {a : List α} {n : Nat} (hn : a.length = n) (h : (a.take n).any g = false) : a.any g = false := by
  rwa [show a.take n = a from List.take_of_length_le (by omega)] at h
theorem leaves_nms {LL : List (List Int)} (h : leavesF LL = true) : 1 ≤ LL.length ∧ LL.length ≤ 1000 ∧ ∀ l ∈ LL, Nms l := by
  unfold leavesF at h
  rw [Bool.and_eq_true] at h
  have h1 := of_decide_eq_true h.2
  exact ⟨h1.1, h1.2, fun l hl => of_decide_eq_true ((List.all_eq_true.1 h.1) l hl)⟩
theorem reach_mem {k : Kx} {B : List Int} {l : List Int} (h : l ∈ lvsF k B) : l = [] ∨ l ∈ k.lv := by
  unfold lvsF at h
  obtain ⟨z, hz, rfl⟩ := List.mem_map.1 h
  rw [List.getD_eq_getElem?_getD]
  cases hl : k.lv[(-1 - z).toNat]? with
  | none => exact .inl rfl
  | some l => exact .inr (List.mem_of_getElem? hl)
end Go.Ky
namespace Go.Proofs.YthfegbcbpeedbaaDoor
open Go.RowKit Go.Nm Go.Ky

set_option maxRecDepth 100000 in
set_option maxHeartbeats 4000000 in
theorem mis1_any (g : Nat) (name : Int) (u : Value) (L : List Int) (w : World) (hu : InSl w w.heap.size u L) (hs : Inc L) (hn : L.length ≤ 1000000) (hg : w.heap[g]? = some (.cells #[.int .i64 name] 3)) :
    Calls Tryd.prog 126 #[u, .pointer (some ⟨g, 0, none⟩)] w fun e w' => e = .returned (.bool (!decide (name ∈ L))) ∧ w = w' := by
  have HS := Lib.hid (search_any u L name w hu hs hn)
  have c0 := cell_one hg
  obtain ⟨A, c, rfl, _⟩ := hu.form
  generalize L.length = n at *
  obtain ⟨b, hb⟩ : ∃ b, decide (name ∈ L) = b := ⟨_, rfl⟩
  rw [hb] at HS ⊢
  clear hu hs hg hb
  go_enter Tryd.func126, Tryd.ntmps126
  go_wp2_with fail
  (with_reducible refine HS.out.mono ?_)
  rintro e w1 ⟨⟨p, rfl⟩, rfl⟩
  clear HS
  go_wp2_with fail
  go_ret
  exact ⟨by cases b <;> rfl, rfl⟩
set_option maxRecDepth 100000 in
set_option maxHeartbeats 4000000 in
theorem IndexMis_any (g : Nat) (name : Int) (v : Value) (LL : List (List Int)) (w : World) (hv : VsSl w w.heap.size v LL) (hg : w.heap[g]? = some (.cells #[.int .i64 name] 3)) (hs : ∀ l ∈ LL, Inc l ∧ l.length ≤ 1000000) (hn : LL.length ≤ 100000) :
    Calls Tryd.prog 135 #[v, .func (.func 126) #[] #[.pointer (some ⟨g, 0, none⟩)]] w fun e w' =>
      ((∃ i : Nat, e = .returned (.int .i64 (i : Int)) ∧ i < 100000 ∧ LL.any (fun l => !decide (name ∈ l)) = true) ∨ (e = .returned (.int .i64 (-1)) ∧ LL.any (fun l => !decide (name ∈ l)) = false)) ∧ w = w' := by
  have HG := Lib.hid hg
  have HU := Lib.hid hv
  have HSs := Lib.hid hs
  obtain ⟨A, c, rfl⟩ := hv.form
  obtain ⟨n, h⟩ : ∃ n, LL.length = n := ⟨_, rfl⟩
  have HN := Lib.hid h
  rw [h] at HU hn ⊢
  clear hv h hg hs
  go_enter Tryd.func135, Tryd.ntmps135
  go_wp2_with fail
  go_loopw [8] (fun iv wr => ∃ i : Nat, iv = .int .i64 (i : Int) ∧ i ≤ n ∧ w = wr ∧ (LL.take i).any (fun l => !decide (name ∈ l)) = false) (fun iv _ => n - (intOf iv).toNat)
  case atStart => exact ⟨0, rfl, by omega, rfl, rfl⟩
  case round =>
    obtain ⟨i, rfl, hin, rfl, hno⟩ := hrel
    have HNo := Lib.hid hno
    clear hno
    by_cases hlt : i < n
    · obtain ⟨ad, lv, l, rfl, _, hq, hc, hi⟩ := HU.out.at_ hlt
      have HC := Lib.hid (mis1_any g name lv l w hi (HSs.out l (List.mem_of_getElem? hq)).1 (HSs.out l (List.mem_of_getElem? hq)).2 HG.out)
      obtain ⟨Al, cl, rfl, _⟩ := hi.form
      have HQ := Lib.hid hq
      generalize l.length = q at *
      obtain ⟨b, hb⟩ : ∃ b, decide (name ∈ l) = b := ⟨_, rfl⟩
      have HB := Lib.hid hb
      rw [hb] at HC
      clear hq hi hb
      go_wp2_with fail
      (with_reducible refine HC.out.mono ?_)
      rintro e w1 ⟨rfl, rfl⟩
      clear HC
      cases b with
      | false =>
        have HF := Lib.hid (any_true (g := fun l => !decide (name ∈ l)) HQ.out (by simp [HB.out]))
        have hi5 : i < 100000 := by omega
        go_wp2_with fail
        go_ret
        exact ⟨.inl ⟨i, rfl, hi5, HF.out⟩, rfl⟩
      | true =>
        have HT := Lib.hid (any_take_false (g := fun l => !decide (name ∈ l)) HQ.out HNo.out (by simp [HB.out]))
        go_wp2_with fail
        go_roundw
        case rel => exact ⟨i + 1, by go_num, by omega, by first | trivial | rfl, HT.out⟩
        case measure => simp [intOf]; try omega
    · obtain rfl : n = i := by omega
      have HF := Lib.hid (any_end (g := fun l => !decide (name ∈ l)) HN.out HNo.out)
      go_wp2_with fail
      go_ret
      exact ⟨.inr ⟨rfl, HF.out⟩, rfl⟩
set_option maxRecDepth 100000 in
set_option maxHeartbeats 4000000 in
theorem ContainsMis_any (g : Nat) (name : Int) (v : Value) (LL : List (List Int)) (w : World) (hv : VsSl w w.heap.size v LL) (hg : w.heap[g]? = some (.cells #[.int .i64 name] 3)) (hs : ∀ l ∈ LL, Inc l ∧ l.length ≤ 1000000) (hn : LL.length ≤ 100000) :
    Calls Tryd.prog 125 #[v, .func (.func 126) #[] #[.pointer (some ⟨g, 0, none⟩)]] w fun e w' => e = .returned (.bool (LL.any (fun l => !decide (name ∈ l)))) ∧ w = w' := by
  have HC := Lib.hid (IndexMis_any g name v LL w hv hg hs hn)
  obtain ⟨A, c, rfl⟩ := hv.form
  generalize LL.length = n at *
  obtain ⟨b, hb⟩ : ∃ b, LL.any (fun l => !decide (name ∈ l)) = b := ⟨_, rfl⟩
  rw [hb] at HC ⊢
  clear hv hg hs hb
  go_enter Tryd.func125, Tryd.ntmps125
  go_wp2_with fail
  (with_reducible refine HC.out.mono ?_)
  rintro e w1 ⟨hR, rfl⟩
  clear HC
  rcases hR with ⟨i, rfl, hi, rfl⟩ | ⟨rfl, rfl⟩
  · go_wp2_with fail
    go_ret
    exact ⟨by simp, rfl⟩
  · go_wp2_with fail
    go_ret
    exact ⟨by simp, rfl⟩
theorem lvs_len {k : Kx} {B : List Int} : (lvsF k B).length ≤ B.length := by
  unfold lvsF; rw [List.length_map]; exact List.length_filter_le _ _
set_option maxRecDepth 100000 in
set_option maxHeartbeats 8000000 in
theorem misleads_any (u v : Value) (k : Kx) (name : Int) (seen st : List Int) (w : World) (hu : KyV w u k) (hv : InSl w w.heap.size v seen) (hk : KSm k) (hok : KOk st k) (hss : seen.length = st.length) (hl : leavesF k.lv = true) (hr : (reachF k seen).length ≤ 100000) :
    Calls Tryd.prog 106 #[u, .int .i64 name, v] w fun e w' => e = .returned (.bool (misF k name seen)) ∧ Below w.heap.size w w' := by
  obtain ⟨A1, c1, A2, c2, W0, rfl, hW0, hb0, hK, hNd, hV, hX⟩ := ky_box hu
  have hz : W0.heap.size = w.heap.size + 1 := by rw [← hW0]; simp
  have hb1 := below_new (w := W0) (.cells #[.int .i64 name] 3)
  have hn1 := World.alloc_heap_new W0 (.cells #[.int .i64 name] 3)
  obtain ⟨W1, hW1⟩ : ∃ W, W0.alloc (.cells #[.int .i64 name] 3) = W := ⟨_, rfl⟩
  rw [hW1, hz] at hn1
  rw [hW1] at hb1
  have HW := Lib.hid (And.intro hW0 hW1)
  have hB1 := hb0.trans (hb1.mono hb0.size)
  have HB1 := Lib.hid hB1
  obtain ⟨k0, k1⟩ := hX W1 hb1
  have HRe := Lib.hid (reached_any _ v k seen st W1 (hK W1 hb1) (hv.step hB1) hk hok hss (leaves_nms hl).1)
  have HSs := Lib.hid (show ∀ l ∈ reachF k seen, Inc l ∧ l.length ≤ 1000000 from fun l hm => by
    rcases reach_mem hm with rfl | h
    · exact ⟨List.Pairwise.nil, by simp⟩
    · exact ⟨((leaves_nms hl).2.2 l h).1, by have := hk.2.2.2 l h; omega⟩)
  have HN1 := Lib.hid (fun Y (h : Below W1.heap.size W1 Y) => (h.block _ (Array.getElem?_eq_some_iff.1 hn1).1).trans hn1)
  have HF := Lib.hid (show misF k name seen = (reachF k seen).any (fun l => !decide (name ∈ l)) from rfl)
  have HLr := Lib.hid hr
  rw [HF.out]
  obtain ⟨RL, hRL⟩ : ∃ L, reachF k seen = L := ⟨_, rfl⟩
  rw [hRL] at HRe HSs HLr ⊢
  obtain ⟨As, cs, rfl, _⟩ := hv.form
  generalize k.nd.length = n at *
  generalize k.lv.length = nl at *
  generalize seen.length = ns at *
  clear hu hv hk hok hss hl hr hW0 hb0 hK hNd hV hX hz hb1 hn1 hW1 hB1 hRL HF
  go_enter Tryd.func106, Tryd.ntmps106
  go_wp2_with fail
  rw [HW.out.1, HW.out.2]
  (try go_wp2_with fail)
  (with_reducible refine HRe.out.mono ?_)
  rintro e w2 ⟨⟨r, rfl, hr⟩, hb⟩
  have HB2 := Lib.hid (HB1.out.trans (hb.mono HB1.out.size))
  have HC := Lib.hid (ContainsMis_any (w.heap.size + 1) name r RL w2 hr (HN1.out w2 hb) HSs.out HLr.out)
  obtain ⟨Ar, cr, rfl⟩ := hr.form
  generalize RL.length = nr at *
  clear hr hb HRe k0 k1
  go_wp2_with fail
  (with_reducible refine HC.out.mono ?_)
  rintro e w3 ⟨rfl, rfl⟩
  go_wp2_with fail
  go_ret
  exact ⟨rfl, HB2.out⟩
end Go.Proofs.YthfegbcbpeedbaaDoor
