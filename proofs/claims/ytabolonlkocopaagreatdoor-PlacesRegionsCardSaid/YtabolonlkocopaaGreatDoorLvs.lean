
/- The squares of a level: the iterator that ranges over another one. -/
import Derived.Test.YtabolonlkocopaaGreatDoorPc
import Derived.Test.YtabolonlkocopaaGreatDoorRanO
import Derived.Test.YtabolonlkocopaaGreatDoorTail
import Derived.Sort.LoopGhostIn
import Derived.Shelf.RegionOpen
namespace Go.Proofs.YtabolonlkocopaaGreatDoor
open Go.RowKit Go.Plc Go.Shelf
attribute [local go_sem] Oper.semAt_some

def lvlStep (L : Int) (s : Sq) : List Sq := if s.l ≤ L then [blurS s L] else piecesS s L
def lvlTo (l : List Sq) (L : Int) (i : Nat) : List Sq := (l.take i).flatMap (lvlStep L)
def atLevelS (l : List Sq) (L : Int) : List Sq := l.flatMap (lvlStep L)
theorem lvlTo_succ {l : List Sq} {L : Int} {i : Nat} {s : Sq} (h : l[i]? = some s) : lvlTo l L (i + 1) = lvlTo l L i ++ lvlStep L s := by
  unfold lvlTo; rw [List.take_add_one, h, List.flatMap_append]; simp
theorem lvlTo_pre (l : List Sq) (L : Int) (i : Nat) : lvlTo l L i <+: atLevelS l L := by
  unfold lvlTo atLevelS
  obtain ⟨t, ht⟩ := List.take_prefix i l
  refine ⟨t.flatMap (lvlStep L), ?_⟩
  rw [← List.flatMap_append, ht]

theorem pieces_any (s : Sq) (L : Int) (w : World) :
    Calls Tryz.prog 98 #[sqv s, .int .i64 L] w fun e w' => e = .returned (.func (.func 116) #[] #[.pointer (some ⟨w.heap.size, 0, none⟩), .pointer (some ⟨w.heap.size + 1, 0, none⟩)]) ∧ w' = (w.alloc (.cells #[.int .i64 s.l, .int .i64 s.x, .int .i64 s.y] 31)).alloc (.cells #[.int .i64 L] 3) := by
  unfold sqv
  go_enter Tryz.func98, Tryz.ntmps98
  go_wp2_with fail
  go_ret
  exact ⟨by simp, rfl⟩
theorem atLevel_any (v : Value) (L : Int) (w : World) (hv : ∃ A n c, v = .slice A n c) :
    Calls Tryz.prog 65 #[v, .int .i64 L] w fun e w' => e = .returned (.func (.func 97) #[] #[.pointer (some ⟨w.heap.size, 0, none⟩), .pointer (some ⟨w.heap.size + 1, 0, none⟩)]) ∧ w' = (w.alloc (.cells #[v] 22)).alloc (.cells #[.int .i64 L] 3) := by
  obtain ⟨A, n, c, rfl⟩ := hv
  go_enter Tryz.func65, Tryz.ntmps65
  go_wp2_with fail
  go_ret
  exact ⟨by simp, rfl⟩

theorem arr32 {t : Array Value} (h : t.size = 32) : ∃ f : Nat → Value, t = #[f 0, f 1, f 2, f 3, f 4, f 5, f 6, f 7, f 8, f 9, f 10, f 11, f 12, f 13, f 14, f 15, f 16, f 17, f 18, f 19, f 20, f 21, f 22, f 23, f 24, f 25, f 26, f 27, f 28, f 29, f 30, f 31] := by
  refine ⟨fun k => t.getD k undef, ?_⟩
  apply Array.ext
  · simpa using h
  · intro i h1 h2
    have : i < 32 := by omega
    have hi : i = 0 ∨ i = 1 ∨ i = 2 ∨ i = 3 ∨ i = 4 ∨ i = 5 ∨ i = 6 ∨ i = 7 ∨ i = 8 ∨ i = 9 ∨ i = 10 ∨ i = 11 ∨ i = 12 ∨ i = 13 ∨ i = 14 ∨ i = 15 ∨ i = 16 ∨ i = 17 ∨ i = 18 ∨ i = 19 ∨ i = 20 ∨ i = 21 ∨ i = 22 ∨ i = 23 ∨ i = 24 ∨ i = 25 ∨ i = 26 ∨ i = 27 ∨ i = 28 ∨ i = 29 ∨ i = 30 ∨ i = 31 := by omega
    rcases hi with rfl | rfl | rfl | rfl | rfl | rfl | rfl | rfl | rfl | rfl | rfl | rfl | rfl | rfl | rfl | rfl | rfl | rfl | rfl | rfl | rfl | rfl | rfl | rfl | rfl | rfl | rfl | rfl | rfl | rfl | rfl | rfl <;> simp [Array.getD, h]

def markOf (D : Nat) : Deferred := { target := .collected D, args := #[] }
theorem leaves_marks {P : Program} {fn : Func} {n B : Nat} {tmps : Array Value} {R : Ending → World → Prop} {Q : World → Prop} (hQ : ∀ X D, Q X → B ≤ D → X.heap[D]? = some (.deferred (some [])) → Q (X.putObj D (.deferred none)))
    (hfin : ∀ X, Q X → LeavesInM Fence.wide n P fn tmps R [] .returning X) : ∀ (Ds : List Nat) (X : World), Q X → Ds.Nodup → (∀ D ∈ Ds, B ≤ D ∧ X.heap[D]? = some (.deferred (some []))) → LeavesInM Fence.wide n P fn tmps R (Ds.map markOf) .returning X
  | [], X, h, _, _ => hfin X h
  | D :: Ds, X, h, hn, hd => by
    obtain ⟨h1, h2⟩ := hd D List.mem_cons_self
    refine ⟨by simp, .inl ⟨D, _, rfl, run_takeDeferred h2, leaves_marks hQ hfin Ds _ (hQ X D h h1 h2) (List.nodup_cons.1 hn).2 fun E hE => ?_⟩⟩
    obtain ⟨h3, h4⟩ := hd E (List.mem_cons_of_mem _ hE)
    refine ⟨h3, (World.putObj_heap_other (fun e => ?_)).trans h4⟩
    subst e
    exact (List.nodup_cons.1 hn).1 hE
end Go.Proofs.YtabolonlkocopaaGreatDoor


/- The squares of a level: the iterator's law. -/
namespace Go.Proofs.YtabolonlkocopaaGreatDoor
open Go.RowKit Go.Plc Go.Shelf
attribute [local go_sem] Oper.semAt_some

theorem roundIn_any {P : Program} {l l' m m' : Nat} {f : FuncId} {tmps : Array Value} {assign body : Code} {w : World} {R : Ending → World → Prop} (h : RoundIn Fence.wide m P l f tmps assign body w R) : RoundIn (Fence.wide.inRound l') m' P l f tmps assign body w R :=
  ⟨trivial, fun c cs _ => h.2 c cs (by simp [Fence.room, Fence.wide])⟩

structure LvW (l : List Sq) (L : Int) (lp yb : Nat) (J : List Sq → Option Nat → World → Prop) (pre : List Sq) (Ds : List Nat) (X : World) : Prop where
  box : X.heap[yb]? = some (.cells #[.func (.yield lp) #[] #[]] 51)
  ds : ∀ D ∈ Ds, yb < D ∧ X.heap[D]? = some (.deferred (some []))
  nd : Ds.Nodup
  j : J pre none X
structure LvX (lp yb : Nat) (Jx : List Sq → World → Prop) (pre : List Sq) (Ds : List Nat) (X : World) : Prop where
  ds : ∀ D ∈ Ds, yb < D ∧ X.heap[D]? = some (.deferred (some []))
  nd : Ds.Nodup
  j : Jx pre X
structure LvA (bl bL yb : Nat) (A : Option Addr) (m c i : Nat) (Ds : List Nat) (a : Act) : Prop where
  size : a.tmps.size = 32
  t1 : a.tmps.getD 1 undef = .pointer (some ⟨bl, 0, none⟩)
  t2 : a.tmps.getD 2 undef = .pointer (some ⟨bL, 0, none⟩)
  t3 : a.tmps.getD 3 undef = .pointer (some ⟨yb, 0, none⟩)
  t7 : a.tmps.getD 7 undef = .slice A m c
  t8 : a.tmps.getD 8 undef = .int .i64 (m : Int)
  t9 : a.tmps.getD 9 undef = .int .i64 (i : Int)
  ds : a.defers = Ds.map markOf
theorem LvW.below {l : List Sq} {L : Int} {lp yb B : Nat} {J : List Sq → Option Nat → World → Prop} {pre : List Sq} {Ds : List Nat} {X Y : World} (h : LvW l L lp yb J pre Ds X) (hJ : ∀ ow, OwnFrom B (fun pre => J pre ow)) (hb : Below X.heap.size X Y) : LvW l L lp yb J pre Ds Y :=
  ⟨(hb.block _ (Array.getElem?_eq_some_iff.1 h.box).1).trans h.box, fun D hD => ⟨(h.ds D hD).1, (hb.block _ (Array.getElem?_eq_some_iff.1 (h.ds D hD).2).1).trans (h.ds D hD).2⟩, h.nd, abide_below (ownFrom_abides (hJ none)) h.j hb⟩
theorem LvW.ka {l : List Sq} {L : Int} {lp yb B : Nat} {J : List Sq → Option Nat → World → Prop} {pre pre' : List Sq} {Ds : List Nat} {X Y : World} (h : LvW l L lp yb J pre Ds X) (hB : B ≤ yb) (hj : J pre' none Y) (hk : KA B none X Y) : LvW l L lp yb J pre' Ds Y :=
  ⟨hk.same _ _ hB h.box (by simp), fun D hD => ⟨(h.ds D hD).1, hk.same _ _ (by have := (h.ds D hD).1; omega) (h.ds D hD).2 (by simp)⟩, h.nd, hj⟩

theorem LvW.own {l : List Sq} {L : Int} {lp yb B G : Nat} {J : List Sq → Option Nat → World → Prop} {pre0 : List Sq} {Ds : List Nat} (hy : yb < G) (hD : ∀ D ∈ Ds, D < G) (hJ : ∀ ow, OwnFrom B (fun pre => J pre ow)) (hB : B ≤ G) : OwnFrom G (fun pre => LvW l L lp yb J (pre0 ++ pre) Ds) :=
  fun pre X Y row h hg hr => by
    have hne : ∀ k, k < G → some k ≠ row := fun k hk e => by have := (hr k e.symm).1; omega
    exact ⟨(hg.block _ (Array.getElem?_eq_some_iff.1 h.box).1 (hne _ hy)).trans h.box, fun D hd => ⟨(h.ds D hd).1, (hg.block _ (Array.getElem?_eq_some_iff.1 (h.ds D hd).2).1 (hne _ (hD D hd))).trans (h.ds D hd).2⟩, h.nd,
      hJ none _ X Y row h.j hg (fun r e => ⟨by have := (hr r e).1; omega, (hr r e).2⟩)⟩
theorem LvX.own {lp yb B G : Nat} {Jx : List Sq → World → Prop} {pre0 : List Sq} {Ds : List Nat} (hD : ∀ D ∈ Ds, D < G) (hJ : OwnFrom B Jx) (hB : B ≤ G) : OwnFrom G (fun pre => LvX lp yb Jx (pre0 ++ pre) Ds) :=
  fun pre X Y row h hg hr => by
    have hne : ∀ k, k < G → some k ≠ row := fun k hk e => by have := (hr k e.symm).1; omega
    exact ⟨fun D hd => ⟨(h.ds D hd).1, (hg.block _ (Array.getElem?_eq_some_iff.1 (h.ds D hd).2).1 (hne _ (hD D hd))).trans (h.ds D hd).2⟩, h.nd,
      hJ _ X Y row h.j hg (fun r e => ⟨by have := (hr r e).1; omega, (hr r e).2⟩)⟩
def onlyN (K : Act → World → Prop) : Exit → Act → World → Prop
  | .normal, a, w => K a w
  | _, _, _ => False
set_option maxRecDepth 100000 in
set_option maxHeartbeats 4000000 in
theorem atLevel_iter (B n : Nat) (hn1 : 8 ≤ n) (l : List Sq) (L : Int) (A : Option Addr) (c bl bL : Nat) (hok : ∀ s ∈ l, s.okB = true) (h0 : 0 ≤ L) (h1 : L ≤ 10) (hlen : l.length ≤ 1000000) (I : List Sq → Option Nat → World → Prop)
    (hI : ∀ pre ow X, I pre ow X → X.heap[bl]? = some (.cells #[.slice A l.length c] 22) ∧ X.heap[bL]? = some (.cells #[.int .i64 L] 3) ∧ SqA X X.heap.size A l ∧ ow = none) :
    IterO B Tryz.prog n 97 #[.pointer (some ⟨bl, 0, none⟩), .pointer (some ⟨bL, 0, none⟩)] (fun s : Sq => #[sqv s]) I (fun pre x => x.okB = true ∧ x.l = L ∧ pre ++ [x] <+: atLevelS l L) (fun xs => xs = atLevelS l L) (fun pre => pre <+: atLevelS l L) := by
  intro lp J Jx ow W hB hJ hJx hJI hY hS
  have how := (hI _ _ _ (hJI _ _ _ hS)).2.2.2
  subst how
  refine callsIn_of_wp_marks Tryz.func97 rfl trivial ?_ rfl
  simp only [Tryz.ntmps97, List.size_toArray, List.length_cons, List.length_nil, Nat.reduceAdd, Nat.reduceSub, Array.replicate_succ, Array.replicate_zero, List.push_toArray, List.append_toArray, List.nil_append, List.cons_append]
  obtain ⟨g1, g2, g3, _⟩ := hI _ _ _ (hJI _ _ _ hS)
  have hbl : bl < W.heap.size := (Array.getElem?_eq_some_iff.1 g1).1
  have sl : W.cell? ⟨bl, 0, none⟩ = some (.slice A l.length c) := by simp [World.cell?, g1]
  have H0 := Lib.hid (show LvW l L lp W.heap.size J (lvlTo l L 0) [] (W.alloc (.cells #[.func (.yield lp) #[] #[]] 51)) from
    ⟨World.alloc_heap_new W _, fun D hD => (by cases hD), List.nodup_nil, abide_below (ownFrom_abides (hJ none)) hS (below_new _)⟩)
  have HJ := Lib.hid hJ; have HJx := Lib.hid hJx; have HJI := Lib.hid hJI; have HY := Lib.hid hY; have HI := Lib.hid hI; have HOk := Lib.hid hok
  clear hJ hJI hY hI hS hJx g1 g2 g3 hok
  generalize hm : l.length = m at *
  have HM := Lib.hid hm
  clear hm
  gi_wp2_with fail
  refine wpIn_loop_ghost_k (fun k a X => ∃ (i : Nat) (Ds : List Nat), i + k = m ∧ LvA bl bL W.heap.size A m c i Ds a ∧ LvW l L lp W.heap.size J (lvlTo l L i) Ds X) m ?_ ?_
  · exact ⟨0, [], by omega, ⟨rfl, rfl, rfl, rfl, rfl, rfl, rfl, rfl⟩, H0.out⟩
  · rintro gk ⟨t, ds⟩ X ⟨i, Ds, hik, hA, hW⟩ JJ K hJJ hK
    obtain ⟨f, hf⟩ := arr32 hA.size
    subst hf
    have t1 : f 1 = .pointer (some ⟨bl, 0, none⟩) := hA.t1
    have t2 : f 2 = .pointer (some ⟨bL, 0, none⟩) := hA.t2
    have t3 : f 3 = .pointer (some ⟨W.heap.size, 0, none⟩) := hA.t3
    have t7 : f 7 = .slice A m c := hA.t7
    have t8 : f 8 = .int .i64 (m : Int) := hA.t8
    have t9 : f 9 = .int .i64 (i : Int) := hA.t9
    have hds : ds = Ds.map markOf := hA.ds
    subst hds
    rw [t1, t2, t3, t7, t8, t9]
    have HW := Lib.hid hW
    have HK := Lib.hid (And.intro hJJ hK)
    obtain ⟨g1, g2, g3, _⟩ := HI.out _ _ _ (HJI.out _ _ _ hW.j)
    clear hA hW hJJ hK t1 t2 t3 t7 t8 t9
    generalize f 0 = z0
    generalize f 4 = z4
    generalize f 5 = z5
    generalize f 6 = z6
    by_cases hlt : i < m
    · obtain ⟨s, ad, hs, hm, rfl, hb, c1, c2, c3⟩ := g3.at_ HM.out hlt
      have sL : X.cell? ⟨bL, 0, none⟩ = some (.int .i64 L) := by simp [World.cell?, g2]
      have hbL : bL < X.heap.size := (Array.getElem?_eq_some_iff.1 g2).1
      have sY : X.cell? ⟨W.heap.size, 0, none⟩ = some (.func (.yield lp) #[] #[]) := by simp [World.cell?, HW.out.box]
      have hyb : W.heap.size < X.heap.size := (Array.getElem?_eq_some_iff.1 HW.out.box).1
      have HSo := Lib.hid (HOk.out s hm)
      have HTo := Lib.hid (lvlTo_succ (L := L) hs)
      have HG2 := Lib.hid g2
      clear hs hm g1 g2 g3
      by_cases hle : s.l ≤ L
      · obtain ⟨o1, o2, o3, o4, o5, o6⟩ := (Sq.okB_iff s).1 HSo.out
        have HW2 := Lib.hid (HW.out.below HJ.out (below_new (.cells #[.int .i64 s.l, .int .i64 s.x, .int .i64 s.y] 31)))
        have HBl := Lib.hid (fun w => blur_any s L w o1 hle h1)
        have HYd := Lib.hid (show ∀ w5, Below (X.alloc (.cells #[.int .i64 s.l, .int .i64 s.x, .int .i64 s.y] 31)).heap.size (X.alloc (.cells #[.int .i64 s.l, .int .i64 s.x, .int .i64 s.y] 31)) w5 →
            YieldAt Fence.wide (n - 1) Tryz.prog lp #[sqv (blurS s L)] w5 fun e X' => ∃ rb, e = .returned (.bool rb) ∧ (rb = true → LvW l L lp W.heap.size J (lvlTo l L (i + 1)) Ds X') ∧ (rb = false → LvX lp W.heap.size Jx (lvlTo l L (i + 1)) Ds X') from fun w5 hb => by
          have h5 := HW2.out.below HJ.out hb
          obtain ⟨fnx, tmx, asx, bdx, hyd, hR⟩ := HY.out (lvlTo l L i) (blurS s L) none w5 h5.j ⟨blur_ok HSo.out hle h1, rfl, by have := lvlTo_pre l L (i + 1); rw [HTo.out, lvlStep, if_pos hle] at this; exact this⟩
          have e1 : lvlTo l L (i + 1) = lvlTo l L i ++ [blurS s L] := by rw [HTo.out, lvlStep, if_pos hle]
          refine ⟨fnx, tmx, asx, bdx, hyd, hR.mono fun e X' h => ?_⟩
          rcases h with ⟨rfl, ow', hj, hg, hk⟩ | ⟨rfl, hj, hk⟩
          · have := (HI.out _ _ _ (HJI.out _ _ _ hj)).2.2.2
            subst this
            exact ⟨true, rfl, fun _ => h5.ka hB (e1 ▸ hj) hk, fun h => (by cases h)⟩
          · exact ⟨false, rfl, fun h => (by cases h), fun _ => ⟨fun D hD => ⟨(h5.ds D hD).1, hk.same _ _ (by have := (h5.ds D hD).1; omega) (h5.ds D hD).2 (by simp)⟩, h5.nd, e1 ▸ hj⟩⟩)
        have HY5 := Lib.hid (show ∀ w5, Below (X.alloc (.cells #[.int .i64 s.l, .int .i64 s.x, .int .i64 s.y] 31)).drew.heap.size (X.alloc (.cells #[.int .i64 s.l, .int .i64 s.x, .int .i64 s.y] 31)).drew w5 → w5.cell? ⟨W.heap.size, 0, none⟩ = some (.func (.yield lp) #[] #[]) ∧ Below (X.alloc (.cells #[.int .i64 s.l, .int .i64 s.x, .int .i64 s.y] 31)).heap.size (X.alloc (.cells #[.int .i64 s.l, .int .i64 s.x, .int .i64 s.y] 31)) w5 from fun w5 hb => by
          have hb6 : Below (X.alloc (.cells #[.int .i64 s.l, .int .i64 s.x, .int .i64 s.y] 31)).heap.size (X.alloc (.cells #[.int .i64 s.l, .int .i64 s.x, .int .i64 s.y] 31)) w5 := (Below.drew (Below.refl _ _)).trans hb
          refine ⟨?_, hb6⟩
          have h5 := (HW2.out.below HJ.out hb6).box
          simp [World.cell?, h5])
        unfold sqv at HBl HYd
        clear o1 o2 o3 o4 o5 o6
        gi_wp2_with fail
        have mixed : Tryz.prog.follows .mixedOrders = true := by kernel_rfl
        refine wpIn_mono (Q := onlyN (fun a' w' => ∃ rb : Bool, LvA bl bL W.heap.size (some ad) m c i Ds a' ∧ a'.tmps.getD 22 undef = .bool (!rb) ∧ (rb = true → LvW l L lp W.heap.size J (lvlTo l L (i + 1)) Ds w') ∧ (rb = false → LvX lp W.heap.size Jx (lvlTo l L (i + 1)) Ds w'))) ?_ ?_
        · clear HM HI HJI HY HK HW HTo HG2 HOk HSo HW2 HJx HJ H0
          gi_region_with_o (first
            | (refine ⟨trivial, fun h => (by first | omega | cases h), (callsIn_wide.2 (HBl.out _)).mono ?_⟩; rintro e w5 ⟨rfl, hb5⟩; obtain ⟨sY5, hb6⟩ := HY5.out _ hb5; obtain ⟨fnx, tmx, asx, bdx, hyd, hR⟩ := HYd.out _ hb6)
            | (refine ⟨fun h => (by first | omega | cases h), hR.mono ?_⟩; rintro e w6 ⟨rb, rfl, hrb⟩))
          all_goals exact ⟨rb, ⟨rfl, rfl, rfl, rfl, rfl, rfl, rfl, rfl⟩, rfl, hrb⟩
        · rintro e ⟨t, ds⟩ w6 h
          cases e with
          | normal =>
            obtain ⟨rb, hA, t22, hrb⟩ := h
            obtain ⟨f', hf'⟩ := arr32 hA.size
            subst hf'
            have t1 : f' 1 = .pointer (some ⟨bl, 0, none⟩) := hA.t1
            have t2 : f' 2 = .pointer (some ⟨bL, 0, none⟩) := hA.t2
            have t3 : f' 3 = .pointer (some ⟨W.heap.size, 0, none⟩) := hA.t3
            have t7 : f' 7 = .slice (some ad) m c := hA.t7
            have t8 : f' 8 = .int .i64 (m : Int) := hA.t8
            have t9 : f' 9 = .int .i64 (i : Int) := hA.t9
            have t22' : f' 22 = .bool (!rb) := t22
            have hds : ds = Ds.map markOf := hA.ds
            subst hds
            rw [t1, t2, t3, t7, t8, t9, t22']
            clear hA t22 t1 t2 t3 t7 t8 t9 t22'
            simp only [Exit.then]
            cases rb
            · have HX6 := Lib.hid (hrb.2 rfl)
              clear hrb
              gi_wp2_with fail
              exact leaves_marks (B := W.heap.size) (Q := fun X => Jx (lvlTo l L (i + 1)) X) (fun X D h h1 h2 => HJx.out.putObj _ h h1 h2 rfl) (fun X h => ⟨_, results_none rfl _ _ _, ⟨_, rfl⟩, .inr ⟨_, lvlTo_pre l L (i + 1), h⟩⟩) Ds w6 HX6.out.j HX6.out.nd (fun D hD => ⟨by have := (HX6.out.ds D hD).1; omega, (HX6.out.ds D hD).2⟩)
            · have HW6 := Lib.hid (hrb.1 rfl)
              clear hrb
              gi_wp2_with fail
              exact HK.out.2 _ _ ⟨gk - 1, by omega, HK.out.1 _ _ _ ⟨i + 1, Ds, by omega, ⟨rfl, rfl, rfl, rfl, rfl, rfl, by go_num, rfl⟩, HW6.out⟩⟩
          | _ => exact h.elim
      · have HXs := Lib.hid (show ∀ Y, Y = ((X.alloc (.cells #[.int .i64 s.l, .int .i64 s.x, .int .i64 s.y] 31)).alloc (.cells #[.int .i64 s.l, .int .i64 s.x, .int .i64 s.y] 31)).alloc (.cells #[.int .i64 L] 3) → LvW l L lp W.heap.size J (lvlTo l L i) Ds Y ∧ Y.heap[X.heap.size + 1]? = some (.cells #[.int .i64 s.l, .int .i64 s.x, .int .i64 s.y] 31) ∧ Y.heap[X.heap.size + 2]? = some (.cells #[.int .i64 L] 3) ∧ Y.heap.size = X.heap.size + 3 ∧ ∀ D ∈ Ds, D < X.heap.size from by
          rintro Y rfl
          refine ⟨((HW.out.below HJ.out (below_new _)).below HJ.out (below_new _)).below HJ.out (below_new _), ?_, ?_, by simp, fun D hD => (Array.getElem?_eq_some_iff.1 (HW.out.ds D hD).2).1⟩
          · refine (Below.heap_alloc _ _ _ (by simp)).trans ?_
            have := World.alloc_heap_new (X.alloc (.cells #[.int .i64 s.l, .int .i64 s.x, .int .i64 s.y] 31)) (.cells #[.int .i64 s.l, .int .i64 s.x, .int .i64 s.y] 31)
            rwa [World.size_alloc] at this
          · have := World.alloc_heap_new ((X.alloc (.cells #[.int .i64 s.l, .int .i64 s.x, .int .i64 s.y] 31)).alloc (.cells #[.int .i64 s.l, .int .i64 s.x, .int .i64 s.y] 31)) (.cells #[.int .i64 L] 3)
            rwa [World.size_alloc, World.size_alloc] at this)
        have HTo' := Lib.hid (show lvlTo l L (i + 1) = lvlTo l L i ++ piecesS s L by rw [HTo.out, lvlStep, if_neg hle])
        have HPr := Lib.hid (lvlTo_pre l L (i + 1))
        gi_wp2_with fail
        refine ⟨trivial, fun h => (by first | omega | cases h), (callsIn_wide.2 (pieces_any s L _)).mono ?_⟩
        rintro e w2 ⟨rfl, rfl⟩
        gi_wp2_with fail
        generalize hY3 : ((X.alloc (.cells #[.int .i64 s.l, .int .i64 s.x, .int .i64 s.y] 31)).alloc (.cells #[.int .i64 s.l, .int .i64 s.x, .int .i64 s.y] 31)).alloc (.cells #[.int .i64 L] 3) = Y3
        obtain ⟨hW3, hs3, hL3, hz3, hDs⟩ := HXs.out Y3 hY3.symm
        refine wp_rangeO (by omega) (gf := 116) (lb := #[.pointer (some ⟨X.heap.size + 1, 0, none⟩), .pointer (some ⟨X.heap.size + 2, 0, none⟩)]) rfl (enters_of Tryz.func116 (by kernel_rfl) rfl) (encs := fun s : Sq => #[sqv s]) (fun _ => rfl)
          (fun pre ow Y => (LvW l L lp W.heap.size J (lvlTo l L i ++ pre) Ds Y ∧ Y.heap[X.heap.size + 1]? = some (.cells #[.int .i64 s.l, .int .i64 s.x, .int .i64 s.y] 31) ∧ Y.heap[X.heap.size + 2]? = some (.cells #[.int .i64 L] 3)) ∧ ow = none)
          (fun cd pre Y => cd = .ret ∧ LvX lp W.heap.size Jx (lvlTo l L i ++ pre) Ds Y)
          (fun ow pre P Q row h hg hr => ⟨⟨LvW.own (G := Y3.heap.size) (by omega) (fun D hD => by have := hDs D hD; omega) HJ.out (by omega) pre P Q row h.1.1 hg hr,
            (hg.block _ (Array.getElem?_eq_some_iff.1 h.1.2.1).1 (fun e => by have := (hr _ e.symm).1; omega)).trans h.1.2.1, (hg.block _ (Array.getElem?_eq_some_iff.1 h.1.2.2).1 (fun e => by have := (hr _ e.symm).1; omega)).trans h.1.2.2⟩, h.2⟩)
          (fun cd pre P Q row h hg hr => ⟨h.1, LvX.own (G := Y3.heap.size) (fun D hD => by have := hDs D hD; omega) HJx.out (by omega) pre P Q row h.2 hg hr⟩)
          (fun pre ow P h k e => by rw [h.2] at e; cases e) none ⟨⟨by rw [List.append_nil]; exact hW3, hs3, hL3⟩, rfl⟩
          (pieces_iter Y3.heap.size (n - 1) (by omega) s L (X.heap.size + 1) (X.heap.size + 2) HSo.out h0 (by omega) _ (fun pre ow P h => ⟨h.1.2.1, h.1.2.2⟩)).toO
          (fun x a' P => ∃ Bx, Y3.heap.size ≤ Bx ∧ P.heap[Bx]? = some (.cells #[.int .i64 x.l, .int .i64 x.x, .int .i64 x.y] 31) ∧ a'.tmps.size = 32 ∧ a'.tmps.getD 3 undef = .pointer (some ⟨W.heap.size, 0, none⟩) ∧ a'.tmps.getD 6 undef = .pointer (some ⟨Bx, 0, none⟩) ∧ a'.defers = [])
          (fun x a' _ P Q row h hg hr => by
            obtain ⟨Bx, k0, k1, k2⟩ := h
            refine ⟨Bx, k0, (hg.block _ (Array.getElem?_eq_some_iff.1 k1).1 (fun e => ?_)).trans k1, k2⟩
            obtain ⟨_, o, ho, hc⟩ := hr Bx e.symm
            rw [k1] at ho; cases ho; cases hc)
          ?assign ?body ?done ?stop
        case assign =>
          intro lr pre x ow P K' hI' hK'
          unfold sqv
          gi_wp2_with fail
          exact hK' _ _ (.inr ⟨_, rfl⟩) ⟨P.heap.size, by have := (Array.getElem?_eq_some_iff.1 hI'.1.2.2).1; omega, World.alloc_heap_new P _, rfl, rfl, rfl, rfl⟩
        case body =>
          rintro lr pre x ow ⟨t, ds⟩ P hl ⟨r, hr⟩ ⟨⟨hWp, hsp, hLp⟩, rfl⟩ ⟨Bx, hBx, hx, hsz, h3, h6, hd⟩ ⟨hxo, hxl, hxp⟩
          obtain ⟨f', hf'⟩ := arr32 hsz
          subst hf'
          have h3' : f' 3 = .pointer (some ⟨W.heap.size, 0, none⟩) := h3
          have h6' : f' 6 = .pointer (some ⟨Bx, 0, none⟩) := h6
          have hd' : ds = [] := hd
          subst hd'
          rw [h3', h6']
          clear h3 h6 hd h3' h6' hsz
          have HP := Lib.hid (And.intro hWp (And.intro hsp hLp))
          obtain ⟨fnx, tmx, asx, bdx, hyd, hR⟩ := HY.out (lvlTo l L i ++ pre) x none P hWp.j ⟨hxo, hxl, by
            refine List.IsPrefix.trans ?_ HPr.out
            rw [HTo'.out, List.append_assoc]
            exact (List.prefix_append_right_inj _).2 hxp⟩
          have HR := Lib.hid hR
          have sYp : P.cell? ⟨W.heap.size, 0, none⟩ = some (.func (.yield lp) #[] #[]) := by simp [World.cell?, hWp.box]
          obtain ⟨q0, q1, q2⟩ := sq_cells hx
          unfold sqv at hyd
          clear hWp hsp hLp hR hx hxo hxl hxp
          gi_wp2_with fail
          refine ⟨fun h => (by first | omega | cases h), (roundIn_any HR.out).mono ?_⟩
          rintro e Z (⟨rfl, ow3, hj3, hgr, hka⟩ | ⟨rfl, hjx, hka⟩)
          · have how := (HI.out _ _ _ (HJI.out _ _ _ hj3)).2.2.2
            subst how
            have HZ := Lib.hid (show KA Y3.heap.size none P Z ∧ LvW l L lp W.heap.size J (lvlTo l L i ++ (pre ++ [x])) Ds Z ∧ Z.heap[X.heap.size + 1]? = some (.cells #[.int .i64 s.l, .int .i64 s.x, .int .i64 s.y] 31) ∧ Z.heap[X.heap.size + 2]? = some (.cells #[.int .i64 L] 3) from
              ⟨hka.mono (by omega), HP.out.1.ka hB (by rw [← List.append_assoc]; exact hj3) hka, hka.same _ _ (by omega) HP.out.2.1 (by simp), hka.same _ _ (by omega) HP.out.2.2 (by simp)⟩)
            clear hj3 hgr hka
            gi_wp2_with fail
            exact ⟨HZ.out.1, none, ⟨HZ.out.2, rfl⟩, .inl rfl⟩
          · have HZ := Lib.hid (show KA Y3.heap.size none P Z ∧ LvX lp W.heap.size Jx (lvlTo l L i ++ (pre ++ [x])) Ds Z from
              ⟨hka.mono (by omega), fun D hD => ⟨(HP.out.1.ds D hD).1, hka.same _ _ (by have := (HP.out.1.ds D hD).1; omega) (HP.out.1.ds D hD).2 (by simp)⟩, HP.out.1.nd, by rw [← List.append_assoc]; exact hjx⟩)
            clear hjx hka
            gi_wp2_with fail
            exact ⟨HZ.out.1, rfl, HZ.out.2⟩
        case done =>
          rintro D xs ow P hD rfl ⟨⟨hWp, hsp, hLp⟩, rfl⟩ hKd
          have HWd := Lib.hid (show LvW l L lp W.heap.size J (lvlTo l L (i + 1)) (D :: Ds) P from
            ⟨hWp.box, fun E hE => by
              rcases List.mem_cons.1 hE with rfl | hE
              · exact ⟨by omega, hKd⟩
              · exact hWp.ds E hE, List.nodup_cons.2 ⟨fun h => by have := hDs D h; omega, hWp.nd⟩, HTo'.out ▸ hWp.j⟩)
          clear hWp hsp hLp hKd
          gi_wp2_with fail
          exact HK.out.2 _ _ ⟨gk - 1, by omega, HK.out.1 _ _ _ ⟨i + 1, D :: Ds, by omega, ⟨rfl, rfl, rfl, rfl, rfl, rfl, by go_num, rfl⟩, HWd.out⟩⟩
        case stop =>
          rintro D cd pre P hD hSp ⟨rfl, hX⟩ hKd
          have HXd := Lib.hid (And.intro hX hKd)
          have HSp := Lib.hid (show lvlTo l L i ++ pre <+: atLevelS l L from by
            refine List.IsPrefix.trans ?_ HPr.out
            rw [HTo'.out]
            exact (List.prefix_append_right_inj _).2 hSp)
          clear hX hKd hSp
          gi_wp2_with fail
          exact leaves_marks (B := W.heap.size) (Q := fun X => Jx (lvlTo l L i ++ pre) X) (fun X D h h1 h2 => HJx.out.putObj _ h h1 h2 rfl) (fun X h => ⟨_, results_none rfl _ _ _, ⟨_, rfl⟩, .inr ⟨_, HSp.out, h⟩⟩) (D :: Ds) P HXd.out.1.j
            (List.nodup_cons.2 ⟨fun h => by have := hDs D h; omega, HXd.out.1.nd⟩) (fun E hE => by
              rcases List.mem_cons.1 hE with rfl | hE
              · exact ⟨by omega, HXd.out.2⟩
              · exact ⟨by have := (HXd.out.1.ds E hE).1; omega, (HXd.out.1.ds E hE).2⟩)
    · have ei : i = m := by omega
      have HWe := Lib.hid (show LvW l L lp W.heap.size J (atLevelS l L) Ds X from by
        have h := HW.out
        rw [show lvlTo l L i = atLevelS l L from by unfold lvlTo atLevelS; rw [List.take_of_length_le (by have := HM.out; omega)]] at h
        exact h)
      gi_wp2_with fail
      exact leaves_marks (B := W.heap.size) (Q := fun X => J (atLevelS l L) none X) (fun X D h h1 h2 => (HJ.out none).putObj _ h h1 h2 rfl) (fun X h => ⟨_, results_none rfl _ _ _, ⟨_, rfl⟩, .inl ⟨none, h⟩⟩) Ds X HWe.out.j HWe.out.nd (fun D hD => ⟨by have := (HWe.out.ds D hD).1; omega, (HWe.out.ds D hD).2⟩)
end Go.Proofs.YtabolonlkocopaaGreatDoor
