/- Packed: L7a C16f. -/
import Derived.ArgAppend
import Derived.BigQuiet
import Derived.ChangeOld
import Derived.Deep.Cut
import Derived.Deep.CutRange
import Derived.Deep.DrawnRows
import Derived.Deep.MidRow
import Derived.Deep.QuietTactic
import Derived.Deep.RegionHeld3
import Derived.Deep.RegionWith
import Derived.Deep.Slices
import Derived.Deep.Upon
import Derived.Laws.AppendOwnNone
import Derived.Laws.BytesArg
import Derived.Laws.IdiomCopy
import Derived.Laws.MakeOwn
import Derived.Laws.ResultCell
import Derived.Lib.AppendStr
import Derived.Lib.Builder
import Derived.Lib.DecodeN
import Derived.Lib.Hide
import Derived.Lib.Strings
import Derived.Lib.UnsafeStr
import Derived.OpenShut
import Derived.ProofKit
import Derived.ShutString
import Derived.StillTail
import Derived.StillTailTactics
import Derived.Test.YtgcaphjjigpjlaaGreatDoorProg
import Derived.Test.YtgcaphjjigpjlaaGreatDoorShelf
import Derived.WalkKit
import Derived.WalkLawsBesides
import Derived.WalkSpells
import Derived.Test.YtgcaphjjigpjlaaGreatDoorQ00
import Derived.Test.YtgcaphjjigpjlaaGreatDoorQ01
import Derived.Test.YtgcaphjjigpjlaaGreatDoorQ02
import Derived.Test.YtgcaphjjigpjlaaGreatDoorQ03
import Derived.Test.YtgcaphjjigpjlaaGreatDoorQ04
import Derived.Test.YtgcaphjjigpjlaaGreatDoorQ05
import Derived.Test.YtgcaphjjigpjlaaGreatDoorQ06
import Derived.Test.YtgcaphjjigpjlaaGreatDoorQ07
import Derived.Test.YtgcaphjjigpjlaaGreatDoorQ08
import Derived.Test.YtgcaphjjigpjlaaGreatDoorQ09
import Derived.Test.YtgcaphjjigpjlaaGreatDoorQ10
import Derived.Test.YtgcaphjjigpjlaaGreatDoorQ11
import Derived.Test.YtgcaphjjigpjlaaGreatDoorQ12
namespace Go.Proofs.YtgcaphjjigpjlaaGreatDoor
open Go.RowKit
set_option maxRecDepth 100000
set_option maxHeartbeats 2000000
theorem cut_fit (s : ByteArray) (k : Nat) (K : Int) (hK : K = k) (hk : k ≤ 1000) (hs : s.size ≤ maxLen) : ∃ (T : Nat) (cs : List Nat), min (s.size : Int) K = (T : Int) ∧ (if K < (s.size : Int) then K else (s.size : Int)) = (T : Int) ∧ (T : Int) ≤ (s.size : Int) ∧ (0 : Int) ≤ (T : Int) ∧ s.size ≤ 9223372036854775807 ∧
    Hid (∀ w', Calls Tryz.prog 5 #[.string (s.extract 0 T)] w' fun e w'' => e = .returned (.string (mkS (encs cs))) ∧ Ext w' w'') ∧ Hid (∀ c ∈ cs, IsCp c) ∧ cs.length ≤ k ∧ (mkS (encs cs)).size ≤ 4 * k ∧ Hid (dec (bs (mkS (encs cs))) = some cs) := by
  unfold maxLen at hs
  have hz : (s.extract 0 (min s.size k)).size ≤ k := by simp; omega
  have hcp := fitC_cp (bs (s.extract 0 (min s.size k)))
  have hl : (fitC (bs (s.extract 0 (min s.size k)))).length ≤ k := by rw [fitC_length, bs_length]; exact hz
  refine ⟨min s.size k, fitC (bs (s.extract 0 (min s.size k))), by omega, by split <;> omega, by omega, by omega, by omega, Lib.hid fun w' => fit_c _ w' (by omega), Lib.hid hcp, hl, ?_, Lib.hid (by rw [bs_mkS, dec_encs hcp])⟩
  rw [size_mkS]
  have := encs_le (fitC (bs (s.extract 0 (min s.size k)))); omega
end Go.Proofs.YtgcaphjjigpjlaaGreatDoor
namespace Go.Proofs.YtgcaphjjigpjlaaGreatDoor
open Go.RowKit
set_option maxRecDepth 100000
set_option maxHeartbeats 4000000
end Go.Proofs.YtgcaphjjigpjlaaGreatDoor
namespace Go.Proofs.YtgcaphjjigpjlaaGreatDoor
open Go.RowKit
set_option maxRecDepth 100000
set_option maxHeartbeats 4000000
theorem OwnSS.more {w : World} {B B' : Nat} {tS tE : TypeId} {v : Value} {ls : List (List Sp)} (h : OwnSS w B tS tE v ls) (hB : B' ≤ B) : OwnSS w B' tS tE v ls := by
  obtain ⟨vs, h1, h2⟩ := h
  exact ⟨vs, h1.more hB, fun i l hl => by
    obtain ⟨u, g1, g2⟩ := h2 i l hl
    exact ⟨u, g1, g2.more hB⟩⟩
theorem OwnSS.slice {w : World} {B : Nat} {tS tE : TypeId} {v : Value} {ls : List (List Sp)} {n : Nat} (h : OwnSS w B tS tE v ls) (hn : ls.length = n) : ∃ A c, v = .slice A n c ∧ n ≤ c ∧ RdSS w A n c ls := by
  subst hn
  exact h.rd
theorem OwnSS.set {w : World} {B : Nat} {tS tE : TypeId} {A : Option Addr} {n c : Nat} {ls : List (List Sp)} (h : OwnSS w B tS tE (.slice A n c) ls) (hn : ls.length = n) (hne : tS ≠ tE) {j : Nat} (hj : j < n) {u : Value} {l' : List Sp} (hu : Own w B tE 3 u l'.length (spCells l')) :
    ∃ g u0, A = some ⟨g, 0, none⟩ ∧ B ≤ g ∧ g < w.heap.size ∧ w.cell? ⟨g, j, none⟩ = some u0 ∧ w.frozen? ⟨g, j, none⟩ = false ∧ OwnSS (w.setCell ⟨g, j, none⟩ u) B tS tE (.slice A n c) (ls.set j l') := by
  obtain ⟨vs, h1, h2⟩ := h
  subst hn
  obtain ⟨g, c', hv, _, hBg, hgl, hcell⟩ := h1.cells (by omega)
  injection hv with e1 _ e2
  subst e1; subst e2
  have hjv : j < vs.length := by have := h1.1.1; omega
  have hg : ∃ cur f, w.heap[g]? = some (.cells cur tS f) := by
    rcases h1.1.2 with ⟨h, _⟩ | ⟨g', cap, cur, hv, _, hg, _⟩
    · cases h
    · injection hv with e1 _ _
      injection e1 with e1
      injection e1 with e1
      subst e1
      exact ⟨cur, _, hg⟩
  obtain ⟨cur, f, hg⟩ := hg
  refine ⟨g, vs[j], rfl, hBg, hgl, hcell j _ (List.getElem?_eq_getElem hjv), h1.free j, vs.set j u, ?_, fun i l hl => ?_⟩
  · rw [List.length_set]
    exact h1.set (by omega) u
  · rw [List.getElem?_set] at hl
    by_cases hij : j = i
    · subst hij
      rw [if_pos rfl, if_pos hj] at hl
      injection hl with hl
      subst hl
      refine ⟨u, by rw [List.getElem?_set, if_pos rfl, if_pos hjv], ?_⟩
      exact own_cell_other hu (a := ⟨g, j, none⟩) hg hne u
    · rw [if_neg hij] at hl
      obtain ⟨x, g1, g2⟩ := h2 i l hl
      refine ⟨x, by rw [List.getElem?_set, if_neg hij]; exact g1, ?_⟩
      exact own_cell_other g2 (a := ⟨g, j, none⟩) hg hne u
end Go.Proofs.YtgcaphjjigpjlaaGreatDoor
namespace Go.Proofs.YtgcaphjjigpjlaaGreatDoor
open Go.RowKit
set_option maxRecDepth 100000
set_option maxHeartbeats 4000000
set_option linter.unusedSimpArgs false
def revL (k : Nat) : List Int := (List.range (k + 1)).map fun (i : Nat) => (i : Int)
theorem revL_len (k : Nat) : (revL k).length = k + 1 := by simp [revL]
theorem revL_succ (k : Nat) : revL (k + 1) = revL k ++ [((k + 1 : Nat) : Int)] := by unfold revL; rw [List.range_succ, List.map_append]; rfl
theorem OwnSS.cell_other {w : World} {B : Nat} {tS tE t : TypeId} {v : Value} {ls : List (List Sp)} (h : OwnSS w B tS tE v ls) {a : Addr} {cur : Array Value} {f : Nat × Nat} (hg : w.heap[a.block]? = some (.cells cur t f)) (h1 : t ≠ tS) (h2 : t ≠ tE) (u : Value) : OwnSS (w.setCell a u) B tS tE v ls := by
  obtain ⟨vs, g1, g2⟩ := h
  refine ⟨vs, own_cell_other g1 hg h1 u, fun i l hl => ?_⟩
  obtain ⟨x, g3, g4⟩ := g2 i l hl
  exact ⟨x, g3, own_cell_other g4 hg h2 u⟩
theorem OwnSS.others {w w' : World} {B : Nat} {tS tE e : TypeId} {v : Value} {ls : List (List Sp)} (h : OwnSS w B tS tE v ls) (hO : Others w w' e) (h1 : tS ≠ e) (h2 : tE ≠ e) : OwnSS w' B tS tE v ls := by
  obtain ⟨vs, g1, g2⟩ := h
  refine ⟨vs, hO.own h1 g1, fun i l hl => ?_⟩
  obtain ⟨x, g3, g4⟩ := g2 i l hl
  exact ⟨x, g3, hO.own h2 g4⟩
def Keep2 (e1 e2 : TypeId) (w w' : World) : Prop := w.heap.size ≤ w'.heap.size ∧ ∀ (g : Nat) (cur : Array Value) (e : TypeId) (f : Nat × Nat), e ≠ e1 → e ≠ e2 → w.heap[g]? = some (.cells cur e f) → w'.heap[g]? = some (.cells cur e f)
theorem Keep2.refl (e1 e2 : TypeId) (w : World) : Keep2 e1 e2 w w := ⟨Nat.le_refl _, fun _ _ _ _ _ _ h => h⟩
theorem Keep2.trans {e1 e2 : TypeId} {a b c : World} (h : Keep2 e1 e2 a b) (k : Keep2 e1 e2 b c) : Keep2 e1 e2 a c := ⟨Nat.le_trans h.1 k.1, fun g u e f h1 h2 hg => k.2 g u e f h1 h2 (h.2 g u e f h1 h2 hg)⟩
theorem Keep2.ext {e1 e2 : TypeId} {a b c : World} (h : Keep2 e1 e2 a b) (k : Ext b c) : Keep2 e1 e2 a c := h.trans ⟨k.size, fun g _ _ _ _ _ hg => (k.block g (Array.getElem?_eq_some_iff.1 hg).1).trans hg⟩
theorem Keep2.below {e1 e2 : TypeId} {a b c : World} (h : Keep2 e1 e2 a b) (k : Below a.heap.size b c) : Keep2 e1 e2 a c := ⟨Nat.le_trans h.1 k.size, fun g u e f h1 h2 hg => (k.block g (Array.getElem?_eq_some_iff.1 hg).1).trans (h.2 g u e f h1 h2 hg)⟩
theorem Keep2.others {e1 e2 : TypeId} {a b c : World} (h : Keep2 e1 e2 a b) (k : Others b c e1) : Keep2 e1 e2 a c := h.trans ⟨k.1, fun g u e f h1 _ hg => k.2 g u e f h1 hg⟩
theorem Keep2.set {e1 e2 : TypeId} {a b : World} (h : Keep2 e1 e2 a b) {y : Nat} {vs : Array Value} (hb : BxT e2 b y vs) (i : Nat) (v : Value) : Keep2 e1 e2 a (b.setCell ⟨y, i, none⟩ v) := h.trans ⟨by simp, fun g u e f _ h2 hg => by
  rw [heap_setCell_other _ _ _ _ (fun hk => ?_)]
  · exact hg
  · have hb' : b.heap[g]? = some (.cells vs e2 (0, 0)) := by subst hk; exact hb
    rw [hb'] at hg
    injection hg with hg; injection hg with _ he; exact h2 he.symm⟩
theorem Keep2.own {e1 e2 : TypeId} {w w' : World} (h : Keep2 e1 e2 w w') {B : Nat} {e : TypeId} {size n : Nat} {v : Value} {xs : List Value} (ho : Own w B e size v n xs) (h1 : e ≠ e1) (h2 : e ≠ e2) : Own w' B e size v n xs := by
  refine ⟨⟨ho.1.1, ?_⟩, Nat.le_trans ho.2 h.1⟩
  rcases ho.1.2 with h3 | ⟨g, cap, cur, hv, hb, hg, r⟩
  · exact .inl h3
  · exact .inr ⟨g, cap, cur, hv, hb, h.2 g cur e _ h1 h2 hg, r⟩
theorem fit_push {P : Program} {i : TypeInfo} {z : Value} {tSS tS tE : TypeId} (hu : P.underlying tSS = some (.slice tS)) (hi : P.info? tS = some i) (hz : i.zero = some z) (hsize : i.size = 1) (hby : i.bytes = 24) (hzs : z.cells.size = 1)
    {w0 w w1 : World} {B B1 : Nat} {vs : Value} {CL : List (List Sp)} (hne : tS ≠ tE) (h : OwnSS w B tS tE vs CL) (hx : Ext w w1) (hl : CL.length ≤ 1000) {F : List Sp} {a1 : Option Addr} {nF c1 : Nat} (ho : Own w1 B1 tE 3 (.slice a1 nF c1) nF (spCells F)) (hB : B ≤ B1) (hn : F.length = nF) (hb : Below B w0 w1) :
    ∃ v' w', (Builtin.append_ #[tSS, tSS] tSS #[vs, .slice (some ⟨w1.heap.size, 0, none⟩) 1 1]).run P (w1.alloc (.cells #[.slice a1 nF c1] tS)) = .ok v' w' ∧ (OwnSS w' B tS tE v' (CL ++ [F]) ∧ Below B w0 w' ∧ Others w1 w' tS) := by
  obtain ⟨xs, hrow, hel⟩ := h
  obtain ⟨v', w', happ, hown', hbel', hoth⟩ := app_newo (P := P) tSS tSS tS i z 1 24 hu hi hz hsize hby hzs (by omega) (by omega) hb (hrow.ext hx) (by omega) 1 #[.slice a1 nF c1] rfl (by omega) (by simp [Value.oneCell']) tS
  refine ⟨v', w', happ, ⟨xs ++ [.slice a1 nF c1], by rw [List.length_append]; exact hown', fun q l hq => ?_⟩, hbel', hoth⟩
  have hvl : xs.length = CL.length := by have := hrow.1.1; omega
  rw [List.getElem?_append] at hq
  split at hq
  · obtain ⟨u, g1, g2⟩ := hel q l hq
    exact ⟨u, by rw [List.getElem?_append_left (by omega)]; exact g1, hoth.own (Ne.symm hne) (g2.ext hx)⟩
  · have hqe : q = CL.length := by
      rcases Nat.lt_trichotomy q CL.length with h | h | h
      · omega
      · exact h
      · rw [List.getElem?_eq_none (by simp; omega)] at hq; cases hq
    subst hqe
    simp at hq
    subst hq
    refine ⟨.slice a1 nF c1, by rw [List.getElem?_append_right (by omega), hvl]; simp, ?_⟩
    rw [hn]
    exact (hoth.own (Ne.symm hne) ho).more hB
structure FitSt (w0 wq W : World) (z y : Nat) (S : ByteArray) (j : Nat) (segs : List (List Sp)) (vr vs : Value) : Prop where
  hz : w0.heap.size ≤ z
  hy : z < y
  hq : y < wq.heap.size
  h0 : Ext w0 wq
  rb : BxT 56 W z #[.string ⟨#[]⟩, .slice none 0 0, .slice none 0 0]
  box : BxT 56 W y #[.string S, vr, vs]
  rev : Own W w0.heap.size 3 1 vr (j + 1) (nV (revL j))
  sgs : OwnSS W wq.heap.size 23 60 vs segs
  ext : Below w0.heap.size w0 W
  keep : Keep2 3 56 wq W
theorem FitSt.later {w0 wq W W' : World} {z y : Nat} {S : ByteArray} {j : Nat} {segs : List (List Sp)} {vr vs : Value} (h : FitSt w0 wq W z y S j segs vr vs) (x : Ext W W') : FitSt w0 wq W' z y S j segs vr vs :=
  ⟨h.hz, h.hy, h.hq, h.h0, h.rb.ext x, h.box.ext x, h.rev.ext x, h.sgs.ext x, Below.trans h.ext (Below.mono x h.ext.size), h.keep.ext x⟩
theorem FitSt.number {w0 wq W W' : World} {z y : Nat} {S : ByteArray} {j : Nat} {segs : List (List Sp)} {vr vs v : Value} (h : FitSt w0 wq W z y S j segs vr vs) (ho : Own W' w0.heap.size 3 1 v (j + 1 + 1) (nV (revL j) ++ [.int .i64 ((j : Int) + 1)])) (hb : Below w0.heap.size w0 W') (hO : Others W W' 3) :
    FitSt w0 wq (W'.setCell ⟨y, 1, none⟩ v) z y S (j + 1) segs v vs := by
  have hbx : BxT 56 W' y #[.string S, vr, vs] := hO.2 y _ _ _ (by decide) h.box
  have hrb : BxT 56 W' z #[.string ⟨#[]⟩, .slice none 0 0, .slice none 0 0] := hO.2 z _ _ _ (by decide) h.rb
  have hzy : z ≠ y := by have := h.hy; omega
  refine ⟨h.hz, h.hy, h.hq, h.h0, hrb.other ⟨y, 1, none⟩ hzy v, hbx.set 1 v, ?_, (h.sgs.others hO (by decide) (by decide)).cell_other (a := ⟨y, 1, none⟩) hbx (by decide) (by decide) v, hb.setCell (p := ⟨y, 1, none⟩) (by have := h.hz; have := h.hy; simp only; omega) v, (h.keep.others hO).set hbx 1 v⟩
  have h1 := own_cell_other (a := ⟨y, 1, none⟩) ho hbx (by decide) v
  rw [revL_succ, nV_append]
  exact h1
theorem FitSt.segment {w0 wq W W1 W' : World} {z y : Nat} {S : ByteArray} {j : Nat} {segs : List (List Sp)} {vr vs v : Value} {F : List Sp} (h : FitSt w0 wq W z y S j segs vr vs) (hx : Ext W W1) (ho : OwnSS W' wq.heap.size 23 60 v (segs ++ [F])) (hb : Below wq.heap.size W W') (hO : Others W1 W' 23) :
    FitSt w0 wq (W'.setCell ⟨y, 2, none⟩ v) z y S j (segs ++ [F]) vr v := by
  have h1 := h.later hx
  have hbx : BxT 56 W' y #[.string S, vr, vs] := hO.2 y _ _ _ (by decide) h1.box
  have hrb : BxT 56 W' z #[.string ⟨#[]⟩, .slice none 0 0, .slice none 0 0] := hO.2 z _ _ _ (by decide) h1.rb
  have hzy : z ≠ y := by have := h.hy; omega
  exact ⟨h.hz, h.hy, h.hq, h.h0, hrb.other ⟨y, 2, none⟩ hzy v, hbx.set 2 v, own_cell_other (a := ⟨y, 2, none⟩) (hO.own (by decide) h1.rev) hbx (by decide) v, ho.cell_other (a := ⟨y, 2, none⟩) hbx (by decide) (by decide) v, (Below.trans h.ext (Below.mono hb h.h0.size)).setCell (p := ⟨y, 2, none⟩) (by have := h.hz; have := h.hy; simp only; omega) v, (h.keep.below hb).set hbx 2 v⟩
end Go.Proofs.YtgcaphjjigpjlaaGreatDoor
