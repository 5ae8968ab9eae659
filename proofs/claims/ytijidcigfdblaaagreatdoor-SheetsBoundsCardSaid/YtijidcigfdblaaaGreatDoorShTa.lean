/- The library's contracts at this program. -/
import Derived.Test.YtijidcigfdblaaaGreatDoorShQ
import Derived.Test.YtijidcigfdblaaaGreatDoorShTm
import Derived.Test.YtijidcigfdblaaaGreatDoorShLp
import Derived.Lib.AppendIntMem
import Derived.Lib.AppendStr
import Derived.Lib.AtoiErrMem
import Derived.Lib.OthersKept
import Derived.Laws.IdiomStrings
namespace Go.Proofs.YtijidcigfdblaaaGreatDoor
open Go.RowKit Go.Nm Go.Sh Go.Plc

def TabW (w : World) : Prop := Lib.TabIs Tryz.prog w "internal/strconv.uint64pow10" .u64 Lib.pow10Tab
theorem TabW.below {w w' : World} (h : TabW w) (hb : Below w.heap.size w w') : TabW w' := Lib.tabBelow_of_tabIs h w' hb
theorem var_keep {w w' : World} {n : String} {cs : Array Value} (h : w.var? Tryz.prog n = some cs) (hb : Below w.heap.size w w') : w'.var? Tryz.prog n = some cs := by
  unfold World.var? at *
  cases hg : Tryz.prog.globalNamed n with
  | none => simp [hg] at h
  | some g =>
    simp only [hg, Option.bind_some] at h ⊢
    have hlt : g < w.heap.size := by
      rcases Nat.lt_or_ge g w.heap.size with h' | h'
      · exact h'
      · rw [Array.getElem?_eq_none h'] at h; simp at h
    rw [hb.block g hlt]
    exact h
/-- what the package-level variables hold -/
structure GlO (w : World) : Prop where
  tab : TabW w
  md : MonthDays w
  mx : ∃ m, w.cell? ⟨0, 0, none⟩ = some (.int .i64 m)
  es : ∃ tp p, w.var? Tryz.prog "strconv.ErrSyntax" = some #[.iface tp p]
  er : ∃ tp p, w.var? Tryz.prog "strconv.ErrRange" = some #[.iface tp p]
theorem cell_ltB {w : World} {p : Addr} {v : Value} (h : w.cell? p = some v) : p.block < w.heap.size := by
  rcases Nat.lt_or_ge p.block w.heap.size with h' | h'
  · exact h'
  · unfold World.cell? at h
    rw [Array.getElem?_eq_none h'] at h; simp at h
theorem GlO.below {w w' : World} (h : GlO w) (hb : Below w.heap.size w w') : GlO w' := by
  obtain ⟨h1, h2, ⟨m, h3⟩, ⟨a, b, h4⟩, ⟨c, d, h5⟩⟩ := h
  exact ⟨h1.below hb, h2.below hb, ⟨m, (hb.cell (cell_ltB h3)).trans h3⟩, ⟨a, b, var_keep h4 hb⟩, ⟨c, d, var_keep h5 hb⟩⟩
abbrev str (l : List UInt8) : Value := .string ⟨l.toArray⟩
theorem ba_size (l : List UInt8) : (⟨l.toArray⟩ : ByteArray).size = l.length := rfl
theorem ba_data (l : List UInt8) : (⟨l.toArray⟩ : ByteArray).data.toList = l := rfl
theorem ba_eq (s : ByteArray) : (⟨s.data.toList.toArray⟩ : ByteArray) = s := rfl
theorem Itoa_any (n : Int) (w : World) (h : i64B n) (hG : GlO w) :
    Calls Tryz.prog 242 #[.int .i64 n] w fun e w' => e = .returned (str (itT n)) ∧ Below w.heap.size w w' := by
  rw [← itoa_it h]
  exact (Any.strconv_Itoa Tryz.itoaM n h.1 h.2 w hG.tab).mono fun _ _ ⟨he, q, os, hw⟩ => ⟨he, hw ▸ ((below_drewN (Below.refl _ _) q).trans ((grow_below (w.drewN q) os).mono (Nat.le_refl _)))⟩
theorem Atoi_ok (f : List UInt8) (v : Int) (w : World) (h : Lib.atoiAll f = .ok v) (hl : f.length ≤ 100000) :
    Calls Tryz.prog 241 #[str f] w fun e w' => e = .returned (.tuple #[.int .i64 v, .nilIface]) ∧ Below w.heap.size w w' :=
  (Any.strconv_Atoi_ok Tryz.atoiC ⟨f.toArray⟩ (by rw [ba_size]; omega) v h w).mono fun e w' ⟨he, hw⟩ => ⟨he, by
    rcases hw with rfl | ⟨t, rfl⟩
    · exact Below.refl _ _
    · exact Lib.bytesWorld_below _ _ _⟩
theorem Atoi_no (f : List UInt8) (w : World) (h : ∀ v, Lib.atoiAll f ≠ .ok v) (hl : f.length ≤ 100000) (hG : GlO w) :
    Calls Tryz.prog 241 #[str f] w fun e w' => (∃ n N, e = .returned (.tuple #[.int .i64 n, .iface 306 (.pointer (some ⟨N, 0, none⟩))])) ∧ Below w.heap.size w w' := by
  obtain ⟨tp, p, hs⟩ := hG.es
  obtain ⟨tp2, p2, hr⟩ := hG.er
  cases he : Lib.atoiAll f
  · exact absurd he (h _)
  · exact (Any.strconv_Atoi_syntax_var Tryz.atoiC ⟨f.toArray⟩ (by rw [ba_size]; omega) he tp p w hs).mono fun e w' ⟨N, he, _, _, hb⟩ => ⟨⟨_, N, he⟩, hb⟩
  · exact (Any.strconv_Atoi_range_var Tryz.atoiC ⟨f.toArray⟩ (by rw [ba_size]; omega) he tp2 p2 w hr).mono fun e w' ⟨N, he, _, _, hb⟩ => ⟨⟨_, N, he⟩, hb⟩
def cutN (s : List UInt8) : List UInt8 × List UInt8 × Bool := Lib.cut s [10]
theorem Cut_any (s : List UInt8) (w : World) (hl : s.length ≤ 100000) (hG : GlO w) :
    Calls Tryz.prog 145 #[str s, .string ⟨#[10]⟩] w fun e w' => e = .returned (.tuple #[str (cutN s).1, str (cutN s).2.1, .bool (cutN s).2.2]) ∧ Below w.heap.size w w' := by
  obtain ⟨m, hm⟩ := hG.mx
  exact (Any.strings_Cut Tryz.cutL ⟨s.toArray⟩ ⟨#[10]⟩ m w (by rw [ba_size]; omega) hm).mono fun e w' ⟨he, n, hw⟩ => ⟨he, by rw [hw]; exact below_drewN (Below.refl _ _) n⟩
def strVs (F : List (List UInt8)) : Array Value := (F.map fun f => str f).toArray
theorem infoStr9 : (Tryz.prog.info? 9).map (fun i => (i.zero, i.size, i.bytes)) = some (some (.string ByteArray.empty), 1, 16) := by kernel_rfl
theorem map_back : ∀ {l : List ByteArray} {F : List (List UInt8)}, l.map (·.data.toList) = F → l.map Value.string = F.map fun f => str f
  | [], F, h => by subst h; rfl
  | b :: l, F, h => by
    subst h
    rw [List.map_cons, List.map_cons, List.map_cons, map_back (F := l.map (·.data.toList)) rfl]
theorem Split_any (s : List UInt8) (w : World) (hl : s.length ≤ 100000) (hG : GlO w) :
    Calls Tryz.prog 146 #[str s, .string ⟨#[32]⟩] w fun e w' => e = .returned (.slice (some ⟨w.heap.size, 0, none⟩) (splitC 32 s).length (splitC 32 s).length) ∧ w.alloc (.cells (strVs (splitC 32 s)) 9) = w' := by
  obtain ⟨m, hm⟩ := hG.mx
  have hd := Lib.splitB_data ⟨#[32]⟩ 0 (Lib.countB ⟨s.toArray⟩ ⟨#[32]⟩) ⟨s.toArray⟩
  have hs : Lib.splitK [32] 0 (Lib.count s [32]) s = splitC 32 s := split_all 32 s.length s (Nat.le_refl _)
  have hn : Lib.countB ⟨s.toArray⟩ ⟨#[32]⟩ + 1 = (splitC 32 s).length := by
    have h1 := Lib.splitB_all ⟨#[32]⟩ (by decide) 0 _ ⟨s.toArray⟩ rfl
    rw [← h1, ← List.length_map (f := (·.data.toList)), hd]
    exact congrArg List.length hs
  have hv : ((Lib.splitB ⟨#[32]⟩ 0 (Lib.countB ⟨s.toArray⟩ ⟨#[32]⟩) ⟨s.toArray⟩).map Value.string).toArray = strVs (splitC 32 s) := by
    rw [map_back (hd.trans hs)]; rfl
  refine (Any.strings_Split Tryz.splitL infoStr9 ⟨s.toArray⟩ ⟨#[32]⟩ m w (by rw [ba_size]; omega) hm (by decide)).mono ?_
  rintro e w' ⟨he, hw⟩
  rw [hn] at he
  rw [hv] at hw
  exact ⟨he, hw.symm⟩
/-- a row of numbers of type int -/
def NsI (w : World) (v : Value) (ns : List Int) : Prop := (v = .slice none 0 0 ∧ ns = []) ∨ ∃ g c cs fz, v = .slice (some ⟨g, 0, none⟩) ns.length c ∧ w.heap[g]? = some (.cells cs 3 fz) ∧ ∀ (i : Nat) (x : Int), ns[i]? = some x → cs[i]? = some (.int .i64 x)
theorem NsI.kept {w w' : World} {v : Value} {ns : List Int} (h : NsI w v ns) (hk : Lib.OthersKept 5 none w w') : NsI w' v ns := by
  rcases h with h | ⟨g, c, cs, fz, e, hg, hc⟩
  · exact .inl h
  · exact .inr ⟨g, c, cs, fz, e, hk g _ hg (by simp) (fun _ _ e => by cases e), hc⟩
theorem NsI.form {w : World} {v : Value} {ns : List Int} (h : NsI w v ns) : ∃ A c, v = .slice A ns.length c := by
  rcases h with ⟨h, e⟩ | ⟨g, c, cs, fz, e, hg, hc⟩
  · exact ⟨none, 0, by rw [h, e]; rfl⟩
  · exact ⟨_, c, e⟩
theorem NsI.at_ {w : World} {A : Option Addr} {n c : Nat} {ns : List Int} (h : NsI w (.slice A n c) ns) {i : Nat} {x : Int} (hx : ns[i]? = some x) : ∃ ad, A = some ad ∧ w.cell? (ad.add i) = some (.int .i64 x) := by
  rcases h with ⟨h, e⟩ | ⟨g, c', cs, fz, e, hg, hc⟩
  · rw [e] at hx; simp at hx
  · injection e with e1 e2 e3
    refine ⟨_, e1, ?_⟩
    rw [add_zeroB]
    simp [World.cell?, hg, hc i x hx]
theorem othersKept_own {w w' : World} {B : Nat} {v : Value} {n : Nat} {xs : List Value} (h : w.ownsRow B 5 1 v n xs) (hg : w.grownBy w' v.ownBlock) : Lib.OthersKept 5 none w w' := by
  intro k x hk _ hx
  refine (hg.block k (Array.getElem?_eq_some_iff.1 hk).1 fun e => ?_).trans hk
  rcases h.2 with ⟨e1, _⟩ | ⟨g, cap, cur, e1, _, h2, _⟩
  · rw [e1] at e; cases e
  · rw [e1] at e
    injection e with e
    subst e
    rw [hk] at h2
    injection h2 with h2
    exact hx _ _ h2
end Go.Proofs.YtijidcigfdblaaaGreatDoor
