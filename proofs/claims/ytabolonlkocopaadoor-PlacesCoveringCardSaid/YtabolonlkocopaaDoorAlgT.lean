/- three; PlacesAlgebra: the walk. -/
import Derived.Test.YtabolonlkocopaaDoorAlg
namespace Go.Proofs.YtabolonlkocopaaDoor
open Go.RowKit Go.Plc

/-- a normal form, as a call gives it -/
theorem Normal_is (v : Value) (L : List Sq) (w : World) (hv : SqSl w w.heap.size v L) (hn : L.length ≤ 4096) :
    Calls Tryd.prog 36 #[v] w fun e w' => (∃ (u : Value) (er : Int), e = .returned (.tuple #[u, .int .i64 er]) ∧ ((er = 0 ∧ (∀ s ∈ L, s.okB = true) ∧ SqSl w' w'.heap.size u (nrm L)) ∨ (er = 10 ∧ ¬ ∀ s ∈ L, s.okB = true))) ∧ Below w.heap.size w w' := by
  have hout : (normalOut L = (nrm L, 0) ∧ ∀ s ∈ L, s.okB = true) ∨ (normalOut L = ([], 10) ∧ ¬ ∀ s ∈ L, s.okB = true) := by
    by_cases hok : ∀ s ∈ L, s.okB = true
    · left
      refine ⟨?_, hok⟩
      unfold normalOut nrm
      rw [if_pos hn, if_pos (List.all_eq_true.2 hok)]
    · right
      refine ⟨?_, hok⟩
      unfold normalOut
      rw [if_pos hn, if_neg (fun h => hok (List.all_eq_true.1 h))]
  have hN := Normal_any v L w hv (by omega)
  generalize normalOut L = o at *
  generalize nrm L = N at *
  refine hN.mono ?_
  rintro e w' ⟨⟨A, c, rfl, hA⟩, hb⟩
  rcases hout with ⟨rfl, hok⟩ | ⟨rfl, hok⟩
  · exact ⟨⟨_, _, rfl, .inl ⟨rfl, hok, A, c, rfl, hA⟩⟩, hb⟩
  · exact ⟨⟨_, _, rfl, .inr ⟨rfl, hok⟩⟩, hb⟩

/-- what three returns -/
def ThreeRes (a b c : List Sq) (w : World) (e : Ending) (w' : World) : Prop :=
  ((∃ u v t : Value, e = .returned (.tuple #[u, v, t, .bool true]) ∧ (a.length ≤ 40 ∧ b.length ≤ 40 ∧ c.length ≤ 40) ∧ ((∀ s ∈ a, s.okB = true) ∧ (∀ s ∈ b, s.okB = true) ∧ (∀ s ∈ c, s.okB = true)) ∧ SqSl w' w'.heap.size u (nrm a) ∧ SqSl w' w'.heap.size v (nrm b) ∧ SqSl w' w'.heap.size t (nrm c)) ∨
    (∃ u v t : Value, e = .returned (.tuple #[u, v, t, .bool false]))) ∧ Below w.heap.size w w'
theorem sl_form {w : World} {B : Nat} {v : Value} {L : List Sq} (h : SqSl w B v L) : ∃ A c, v = .slice A L.length c := by
  obtain ⟨A, c, h, _⟩ := h; exact ⟨A, c, h⟩
theorem SqSl.step {X Y : World} {v : Value} {L : List Sq} (h : SqSl X X.heap.size v L) (hb : Below X.heap.size X Y) : SqSl Y Y.heap.size v L := (h.below hb).mono hb.size

set_option maxRecDepth 100000 in
set_option maxHeartbeats 4000000 in
theorem three_any (u v t : Value) (a b c : List Sq) (w : World) (hu : SqSl w w.heap.size u a) (hv : SqSl w w.heap.size v b) (ht : SqSl w w.heap.size t c) :
    Calls Tryd.prog 40 #[u, v, t] w (ThreeRes a b c w) := by
  have HU := Lib.hid hu
  have HV := Lib.hid hv
  have HT := Lib.hid ht
  obtain ⟨A, ca, rfl⟩ := sl_form hu
  obtain ⟨B, cb, rfl⟩ := sl_form hv
  obtain ⟨C, cc, rfl⟩ := sl_form ht
  clear hu hv ht
  generalize ha : a.length = n at *
  generalize hb : b.length = m at *
  generalize hc : c.length = k at *
  have HL := Lib.hid (And.intro ha (And.intro hb hc))
  clear ha hb hc
  by_cases h1 : 40 < n
  · go_enter Tryd.func40, Tryd.ntmps40
    go_wp2_with fail
    refine bodyPost_ret (v := .tuple #[.slice none 0 0, .slice none 0 0, .slice none 0 0, .bool false]) (by simp [results, Tryd.results40, go_sem]) rfl ⟨.inr ⟨_, _, _, rfl⟩, Below.refl _ _⟩
  · by_cases h2 : 40 < m
    · go_enter Tryd.func40, Tryd.ntmps40
      go_wp2_with fail
      refine bodyPost_ret (v := .tuple #[.slice none 0 0, .slice none 0 0, .slice none 0 0, .bool false]) (by simp [results, Tryd.results40, go_sem]) rfl ⟨.inr ⟨_, _, _, rfl⟩, Below.refl _ _⟩
    · by_cases h3 : 40 < k
      · go_enter Tryd.func40, Tryd.ntmps40
        go_wp2_with fail
        refine bodyPost_ret (v := .tuple #[.slice none 0 0, .slice none 0 0, .slice none 0 0, .bool false]) (by simp [results, Tryd.results40, go_sem]) rfl ⟨.inr ⟨_, _, _, rfl⟩, Below.refl _ _⟩
      · go_enter Tryd.func40, Tryd.ntmps40
        go_wp2_with fail
        refine (Normal_is _ a w HU.out (by have := HL.out; omega)).mono ?_
        rintro e w1 ⟨⟨u1, e1, rfl, hor1⟩, hb1⟩
        have H1 := Lib.hid (And.intro hor1 hb1)
        clear hor1 hb1
        go_wp2_with fail
        refine (Normal_is _ b w1 (HV.out.step H1.out.2) (by have := HL.out; omega)).mono ?_
        rintro e w2 ⟨⟨u2, e2, rfl, hor2⟩, hb2⟩
        have H2 := Lib.hid (And.intro hor2 (And.intro hb2 (H1.out.2.trans (hb2.mono H1.out.2.size))))
        clear hor2 hb2
        go_wp2_with fail
        refine (Normal_is _ c w2 (HT.out.step H2.out.2.2) (by have := HL.out; omega)).mono ?_
        rintro e w3 ⟨⟨u3, e3, rfl, hor3⟩, hb3⟩
        have H3 := Lib.hid (And.intro hor3 (And.intro hb3 (H2.out.2.2.trans (hb3.mono H2.out.2.2.size))))
        clear hor3 hb3
        rcases H1.out.1 with ⟨rfl, o1, s1⟩ | ⟨rfl, _⟩
        · rcases H2.out.1 with ⟨rfl, o2, s2⟩ | ⟨rfl, _⟩
          · rcases H3.out.1 with ⟨rfl, o3, s3⟩ | ⟨rfl, _⟩
            · have HF := Lib.hid (And.intro (And.intro o1 (And.intro o2 o3)) (And.intro ((s1.step H2.out.2.1).step H3.out.2.1) (And.intro (s2.step H3.out.2.1) s3)))
              clear o1 o2 o3 s1 s2 s3
              go_wp2_with fail
              refine bodyPost_ret (v := .tuple #[u1, u2, u3, .bool true]) (by simp [results, Tryd.results40, go_sem]) rfl ⟨.inl ⟨_, _, _, rfl, by have := HL.out; omega, HF.out.1, HF.out.2⟩, H3.out.2.2⟩
            · clear o1 o2 s1 s2
              go_wp2_with fail
              refine bodyPost_ret (v := .tuple #[u1, u2, u3, .bool false]) (by simp [results, Tryd.results40, go_sem]) rfl ⟨.inr ⟨_, _, _, rfl⟩, H3.out.2.2⟩
          · clear o1 s1
            go_wp2_with fail
            refine bodyPost_ret (v := .tuple #[u1, u2, u3, .bool false]) (by simp [results, Tryd.results40, go_sem]) rfl ⟨.inr ⟨_, _, _, rfl⟩, H3.out.2.2⟩
        · go_wp2_with fail
          refine bodyPost_ret (v := .tuple #[u1, u2, u3, .bool false]) (by simp [results, Tryd.results40, go_sem]) rfl ⟨.inr ⟨_, _, _, rfl⟩, H3.out.2.2⟩
end Go.Proofs.YtabolonlkocopaaDoor
