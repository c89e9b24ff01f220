/- Packed: L7a C16f. -/
import Derived.ArgAppend
import Derived.BigQuiet
import Derived.ChangeOld
import Derived.Deep.Cut
import Derived.Deep.CutRange
import Derived.Deep.DrawnRows
import Derived.Deep.MidRow
import Derived.Deep.QuietTactic
import Derived.Deep.RegionHeld3
import Derived.Deep.RegionWith
import Derived.Deep.Slices
import Derived.Deep.Upon
import Derived.Laws.AppendOwnNone
import Derived.Laws.BytesArg
import Derived.Laws.IdiomCopy
import Derived.Laws.MakeOwn
import Derived.Laws.ResultCell
import Derived.Lib.AppendStr
import Derived.Lib.Builder
import Derived.Lib.DecodeN
import Derived.Lib.Hide
import Derived.Lib.Strings
import Derived.Lib.UnsafeStr
import Derived.OpenShut
import Derived.ProofKit
import Derived.ShutString
import Derived.StillTail
import Derived.StillTailTactics
import Derived.Test.YtgcaphjjigpjlaaDoorProg
import Derived.Test.YtgcaphjjigpjlaaDoorShelf
import Derived.WalkKit
import Derived.WalkLawsBesides
import Derived.WalkSpells
import Derived.Test.YtgcaphjjigpjlaaDoorQ00
import Derived.Test.YtgcaphjjigpjlaaDoorQ01
import Derived.Test.YtgcaphjjigpjlaaDoorQ02
import Derived.Test.YtgcaphjjigpjlaaDoorQ03
import Derived.Test.YtgcaphjjigpjlaaDoorQ04
import Derived.Test.YtgcaphjjigpjlaaDoorQ05
import Derived.Test.YtgcaphjjigpjlaaDoorQ06
import Derived.Test.YtgcaphjjigpjlaaDoorQ07
import Derived.Test.YtgcaphjjigpjlaaDoorQ08
import Derived.Test.YtgcaphjjigpjlaaDoorQ09
import Derived.Test.YtgcaphjjigpjlaaDoorQ10
import Derived.Test.YtgcaphjjigpjlaaDoorQ11
import Derived.Test.YtgcaphjjigpjlaaDoorQ12
import Derived.Test.YtgcaphjjigpjlaaDoorQ13
import Derived.Test.YtgcaphjjigpjlaaDoorQ14
namespace Go.Proofs.YtgcaphjjigpjlaaDoor
open Go.RowKit
set_option maxRecDepth 100000
set_option maxHeartbeats 2000000
theorem cut_fit (s : ByteArray) (k : Nat) (K : Int) (hK : K = k) (hk : k ≤ 1000) (hs : s.size ≤ maxLen) : ∃ (T : Nat) (cs : List Nat), min (s.size : Int) K = (T : Int) ∧ (if K < (s.size : Int) then K else (s.size : Int)) = (T : Int) ∧ (T : Int) ≤ (s.size : Int) ∧ (0 : Int) ≤ (T : Int) ∧ s.size ≤ 9223372036854775807 ∧
    Hid (∀ w', Calls Tryd.prog 26 #[.string (s.extract 0 T)] w' fun e w'' => e = .returned (.string (mkS (encs cs))) ∧ Ext w' w'') ∧ Hid (∀ c ∈ cs, IsCp c) ∧ cs.length ≤ k ∧ (mkS (encs cs)).size ≤ 4 * k ∧ Hid (dec (bs (mkS (encs cs))) = some cs) := by
  unfold maxLen at hs
  have hz : (s.extract 0 (min s.size k)).size ≤ k := by simp; omega
  have hcp := fitC_cp (bs (s.extract 0 (min s.size k)))
  have hl : (fitC (bs (s.extract 0 (min s.size k)))).length ≤ k := by rw [fitC_length, bs_length]; exact hz
  refine ⟨min s.size k, fitC (bs (s.extract 0 (min s.size k))), by omega, by split <;> omega, by omega, by omega, by omega, Lib.hid fun w' => fit_c _ w' (by omega), Lib.hid hcp, hl, ?_, Lib.hid (by rw [bs_mkS, dec_encs hcp])⟩
  rw [size_mkS]
  have := encs_le (fitC (bs (s.extract 0 (min s.size k)))); omega
end Go.Proofs.YtgcaphjjigpjlaaDoor
namespace Go.Proofs.YtgcaphjjigpjlaaDoor
open Go.RowKit
set_option maxRecDepth 100000
set_option maxHeartbeats 4000000
end Go.Proofs.YtgcaphjjigpjlaaDoor
namespace Go.Proofs.YtgcaphjjigpjlaaDoor
open Go.RowKit
set_option maxRecDepth 100000
set_option maxHeartbeats 4000000
theorem OwnSS.more {w : World} {B B' : Nat} {tS tE : TypeId} {v : Value} {ls : List (List Sp)} (h : OwnSS w B tS tE v ls) (hB : B' ≤ B) : OwnSS w B' tS tE v ls := by
  obtain ⟨vs, h1, h2⟩ := h
  exact ⟨vs, h1.more hB, fun i l hl => by
    obtain ⟨u, g1, g2⟩ := h2 i l hl
    exact ⟨u, g1, g2.more hB⟩⟩
theorem OwnSS.slice {w : World} {B : Nat} {tS tE : TypeId} {v : Value} {ls : List (List Sp)} {n : Nat} (h : OwnSS w B tS tE v ls) (hn : ls.length = n) : ∃ A c, v = .slice A n c ∧ n ≤ c ∧ RdSS w A n c ls := by
  subst hn
  exact h.rd
theorem OwnSS.set {w : World} {B : Nat} {tS tE : TypeId} {A : Option Addr} {n c : Nat} {ls : List (List Sp)} (h : OwnSS w B tS tE (.slice A n c) ls) (hn : ls.length = n) (hne : tS ≠ tE) {j : Nat} (hj : j < n) {u : Value} {l' : List Sp} (hu : Own w B tE 3 u l'.length (spCells l')) :
    ∃ g u0, A = some ⟨g, 0, none⟩ ∧ B ≤ g ∧ g < w.heap.size ∧ w.cell? ⟨g, j, none⟩ = some u0 ∧ w.frozen? ⟨g, j, none⟩ = false ∧ OwnSS (w.setCell ⟨g, j, none⟩ u) B tS tE (.slice A n c) (ls.set j l') := by
  obtain ⟨vs, h1, h2⟩ := h
  subst hn
  obtain ⟨g, c', hv, _, hBg, hgl, hcell⟩ := h1.cells (by omega)
  injection hv with e1 _ e2
  subst e1; subst e2
  have hjv : j < vs.length := by have := h1.1.1; omega
  have hg : ∃ cur f, w.heap[g]? = some (.cells cur tS f) := by
    rcases h1.1.2 with ⟨h, _⟩ | ⟨g', cap, cur, hv, _, hg, _⟩
    · cases h
    · injection hv with e1 _ _
      injection e1 with e1
      injection e1 with e1
      subst e1
      exact ⟨cur, _, hg⟩
  obtain ⟨cur, f, hg⟩ := hg
  refine ⟨g, vs[j], rfl, hBg, hgl, hcell j _ (List.getElem?_eq_getElem hjv), h1.free j, vs.set j u, ?_, fun i l hl => ?_⟩
  · rw [List.length_set]
    exact h1.set (by omega) u
  · rw [List.getElem?_set] at hl
    by_cases hij : j = i
    · subst hij
      rw [if_pos rfl, if_pos hj] at hl
      injection hl with hl
      subst hl
      refine ⟨u, by rw [List.getElem?_set, if_pos rfl, if_pos hjv], ?_⟩
      exact own_cell_other hu (a := ⟨g, j, none⟩) hg hne u
    · rw [if_neg hij] at hl
      obtain ⟨x, g1, g2⟩ := h2 i l hl
      refine ⟨x, by rw [List.getElem?_set, if_neg hij]; exact g1, ?_⟩
      exact own_cell_other g2 (a := ⟨g, j, none⟩) hg hne u
theorem sumTT_le (ls : List (List Sp)) (k : Nat) (h : ∀ l ∈ ls, sumT l ≤ k) : sumTT ls ≤ ls.length * k := by
  induction ls with
  | nil => exact Nat.zero_le _
  | cons l r ih =>
    have h1 := h l (List.mem_cons_self ..)
    have h2 := ih fun x hx => h x (List.mem_cons_of_mem _ hx)
    have e : sumTT (l :: r) = sumT l + sumTT r := rfl
    rw [e, List.length_cons, Nat.add_mul]; omega
end Go.Proofs.YtgcaphjjigpjlaaDoor
namespace Go.Proofs.YtgcaphjjigpjlaaDoor
open Go.RowKit
set_option maxRecDepth 100000
set_option maxHeartbeats 4000000
set_option linter.unusedSimpArgs false
def revL (k : Nat) : List Int := (List.range (k + 1)).map fun (i : Nat) => (i : Int)
theorem revL_len (k : Nat) : (revL k).length = k + 1 := by simp [revL]
theorem revL_succ (k : Nat) : revL (k + 1) = revL k ++ [((k + 1 : Nat) : Int)] := by unfold revL; rw [List.range_succ, List.map_append]; rfl
theorem OwnSS.cell_other {w : World} {B : Nat} {tS tE t : TypeId} {v : Value} {ls : List (List Sp)} (h : OwnSS w B tS tE v ls) {a : Addr} {cur : Array Value} {f : Nat × Nat} (hg : w.heap[a.block]? = some (.cells cur t f)) (h1 : t ≠ tS) (h2 : t ≠ tE) (u : Value) : OwnSS (w.setCell a u) B tS tE v ls := by
  obtain ⟨vs, g1, g2⟩ := h
  refine ⟨vs, own_cell_other g1 hg h1 u, fun i l hl => ?_⟩
  obtain ⟨x, g3, g4⟩ := g2 i l hl
  exact ⟨x, g3, own_cell_other g4 hg h2 u⟩
theorem OwnSS.others {w w' : World} {B : Nat} {tS tE e : TypeId} {v : Value} {ls : List (List Sp)} (h : OwnSS w B tS tE v ls) (hO : Others w w' e) (h1 : tS ≠ e) (h2 : tE ≠ e) : OwnSS w' B tS tE v ls := by
  obtain ⟨vs, g1, g2⟩ := h
  refine ⟨vs, hO.own h1 g1, fun i l hl => ?_⟩
  obtain ⟨x, g3, g4⟩ := g2 i l hl
  exact ⟨x, g3, hO.own h2 g4⟩
def Keep2 (e1 e2 : TypeId) (w w' : World) : Prop := w.heap.size ≤ w'.heap.size ∧ ∀ (g : Nat) (cur : Array Value) (e : TypeId) (f : Nat × Nat), e ≠ e1 → e ≠ e2 → w.heap[g]? = some (.cells cur e f) → w'.heap[g]? = some (.cells cur e f)
theorem Keep2.refl (e1 e2 : TypeId) (w : World) : Keep2 e1 e2 w w := ⟨Nat.le_refl _, fun _ _ _ _ _ _ h => h⟩
theorem Keep2.trans {e1 e2 : TypeId} {a b c : World} (h : Keep2 e1 e2 a b) (k : Keep2 e1 e2 b c) : Keep2 e1 e2 a c := ⟨Nat.le_trans h.1 k.1, fun g u e f h1 h2 hg => k.2 g u e f h1 h2 (h.2 g u e f h1 h2 hg)⟩
theorem Keep2.ext {e1 e2 : TypeId} {a b c : World} (h : Keep2 e1 e2 a b) (k : Ext b c) : Keep2 e1 e2 a c := h.trans ⟨k.size, fun g _ _ _ _ _ hg => (k.block g (Array.getElem?_eq_some_iff.1 hg).1).trans hg⟩
theorem Keep2.below {e1 e2 : TypeId} {a b c : World} (h : Keep2 e1 e2 a b) (k : Below a.heap.size b c) : Keep2 e1 e2 a c := ⟨Nat.le_trans h.1 k.size, fun g u e f h1 h2 hg => (k.block g (Array.getElem?_eq_some_iff.1 hg).1).trans (h.2 g u e f h1 h2 hg)⟩
theorem Keep2.others {e1 e2 : TypeId} {a b c : World} (h : Keep2 e1 e2 a b) (k : Others b c e1) : Keep2 e1 e2 a c := h.trans ⟨k.1, fun g u e f h1 _ hg => k.2 g u e f h1 hg⟩
theorem Keep2.set {e1 e2 : TypeId} {a b : World} (h : Keep2 e1 e2 a b) {y : Nat} {vs : Array Value} (hb : BxT e2 b y vs) (i : Nat) (v : Value) : Keep2 e1 e2 a (b.setCell ⟨y, i, none⟩ v) := h.trans ⟨by simp, fun g u e f _ h2 hg => by
  rw [heap_setCell_other _ _ _ _ (fun hk => ?_)]
  · exact hg
  · have hb' : b.heap[g]? = some (.cells vs e2 (0, 0)) := by subst hk; exact hb
    rw [hb'] at hg
    injection hg with hg; injection hg with _ he; exact h2 he.symm⟩
theorem Keep2.own {e1 e2 : TypeId} {w w' : World} (h : Keep2 e1 e2 w w') {B : Nat} {e : TypeId} {size n : Nat} {v : Value} {xs : List Value} (ho : Own w B e size v n xs) (h1 : e ≠ e1) (h2 : e ≠ e2) : Own w' B e size v n xs := by
  refine ⟨⟨ho.1.1, ?_⟩, Nat.le_trans ho.2 h.1⟩
  rcases ho.1.2 with h3 | ⟨g, cap, cur, hv, hb, hg, r⟩
  · exact .inl h3
  · exact .inr ⟨g, cap, cur, hv, hb, h.2 g cur e _ h1 h2 hg, r⟩
theorem Keep2.ownSS {e1 e2 : TypeId} {w w' : World} (h : Keep2 e1 e2 w w') {B : Nat} {tS tE : TypeId} {v : Value} {ls : List (List Sp)} (ho : OwnSS w B tS tE v ls) (h1 : tS ≠ e1) (h2 : tS ≠ e2) (h3 : tE ≠ e1) (h4 : tE ≠ e2) : OwnSS w' B tS tE v ls := by
  obtain ⟨vs, g1, g2⟩ := ho
  refine ⟨vs, h.own g1 h1 h2, fun i l hl => ?_⟩
  obtain ⟨x, g3, g4⟩ := g2 i l hl
  exact ⟨x, g3, h.own g4 h3 h4⟩
theorem chain_seg (ls : List (List Sp)) (n : Int) (h0 : 0 ≤ n) (h1 : n + 312 * ls.length ≤ 1048576) : segE n ((chainL ls n).map normL) = 0 ∧ ∀ l ∈ chainL ls n, Ok l ∧ sumT l ≤ 312 ∧ l.length ≤ 13 := by
  induction ls generalizing n with
  | nil => exact ⟨rfl, fun l hl => by cases hl⟩
  | cons l r ih =>
    simp only [List.length_cons] at h1
    obtain ⟨fm, fi⟩ := fitL_all l n h0 (by omega)
    obtain ⟨o0, o1⟩ := fit_out l n h0 (by omega)
    have hp := (may_sum _ fm).1
    have hs : sumN (fitL l n) = inL (fitL l n) := (may_sum _ fm).2
    have hfs := fit_sumT l n
    have hfl := fitL_len l n
    obtain ⟨i1, i2⟩ := ih (outL (fitL l n)) o0 (by omega)
    have hnm := norm_may _ fm (by omega)
    have hin := inL_norm (fitL l n)
    have hou := outL_norm _ fm (by omega)
    refine ⟨?_, fun x hx => ?_⟩
    · show segE n (normL (fitL l n) :: (chainL r (outL (fitL l n))).map normL) = 0
      rw [segE_cons, hou]
      exact ⟨⟨mayL_ok _ hnm (by omega) (by omega), by omega, by omega, is_norm _ (norm_is _ hp)⟩, i1⟩
    · rcases List.mem_cons.1 hx with rfl | hx
      · exact ⟨⟨hp, by omega, by omega⟩, hfs, hfl⟩
      · exact i2 x hx
theorem fit_push {P : Program} {i : TypeInfo} {z : Value} {tSS tS tE : TypeId} (hu : P.underlying tSS = some (.slice tS)) (hi : P.info? tS = some i) (hz : i.zero = some z) (hsize : i.size = 1) (hby : i.bytes = 24) (hzs : z.cells.size = 1)
    {w0 w w1 : World} {B B1 : Nat} {vs : Value} {CL : List (List Sp)} (hne : tS ≠ tE) (h : OwnSS w B tS tE vs CL) (hx : Ext w w1) (hl : CL.length ≤ 1000) {F : List Sp} {a1 : Option Addr} {nF c1 : Nat} (ho : Own w1 B1 tE 3 (.slice a1 nF c1) nF (spCells F)) (hB : B ≤ B1) (hn : F.length = nF) (hb : Below B w0 w1) :
    ∃ v' w', (Builtin.append_ #[tSS, tSS] tSS #[vs, .slice (some ⟨w1.heap.size, 0, none⟩) 1 1]).run P (w1.alloc (.cells #[.slice a1 nF c1] tS)) = .ok v' w' ∧ (OwnSS w' B tS tE v' (CL ++ [F]) ∧ Below B w0 w' ∧ Others w1 w' tS) := by
  obtain ⟨xs, hrow, hel⟩ := h
  obtain ⟨v', w', happ, hown', hbel', hoth⟩ := app_newo (P := P) tSS tSS tS i z 1 24 hu hi hz hsize hby hzs (by omega) (by omega) hb (hrow.ext hx) (by omega) 1 #[.slice a1 nF c1] rfl (by omega) (by simp [Value.oneCell']) tS
  refine ⟨v', w', happ, ⟨xs ++ [.slice a1 nF c1], by rw [List.length_append]; exact hown', fun q l hq => ?_⟩, hbel', hoth⟩
  have hvl : xs.length = CL.length := by have := hrow.1.1; omega
  rw [List.getElem?_append] at hq
  split at hq
  · obtain ⟨u, g1, g2⟩ := hel q l hq
    exact ⟨u, by rw [List.getElem?_append_left (by omega)]; exact g1, hoth.own (Ne.symm hne) (g2.ext hx)⟩
  · have hqe : q = CL.length := by
      rcases Nat.lt_trichotomy q CL.length with h | h | h
      · omega
      · exact h
      · rw [List.getElem?_eq_none (by simp; omega)] at hq; cases hq
    subst hqe
    simp at hq
    subst hq
    refine ⟨.slice a1 nF c1, by rw [List.getElem?_append_right (by omega), hvl]; simp, ?_⟩
    rw [hn]
    exact (hoth.own (Ne.symm hne) ho).more hB
structure FitSt (w0 wq W : World) (z y : Nat) (S : ByteArray) (j : Nat) (segs : List (List Sp)) (vr vs : Value) : Prop where
  hz : w0.heap.size ≤ z
  hy : z < y
  hq : y < wq.heap.size
  h0 : Ext w0 wq
  rb : BxT 26 W z #[.string ⟨#[]⟩, .slice none 0 0, .slice none 0 0]
  box : BxT 26 W y #[.string S, vr, vs]
  rev : Own W w0.heap.size 3 1 vr (j + 1) (nV (revL j))
  sgs : OwnSS W wq.heap.size 37 50 vs segs
  ext : Below w0.heap.size w0 W
  keep : Keep2 3 26 wq W
theorem FitSt.later {w0 wq W W' : World} {z y : Nat} {S : ByteArray} {j : Nat} {segs : List (List Sp)} {vr vs : Value} (h : FitSt w0 wq W z y S j segs vr vs) (x : Ext W W') : FitSt w0 wq W' z y S j segs vr vs :=
  ⟨h.hz, h.hy, h.hq, h.h0, h.rb.ext x, h.box.ext x, h.rev.ext x, h.sgs.ext x, Below.trans h.ext (Below.mono x h.ext.size), h.keep.ext x⟩
theorem FitSt.number {w0 wq W W' : World} {z y : Nat} {S : ByteArray} {j : Nat} {segs : List (List Sp)} {vr vs v : Value} (h : FitSt w0 wq W z y S j segs vr vs) (ho : Own W' w0.heap.size 3 1 v (j + 1 + 1) (nV (revL j) ++ [.int .i64 ((j : Int) + 1)])) (hb : Below w0.heap.size w0 W') (hO : Others W W' 3) :
    FitSt w0 wq (W'.setCell ⟨y, 1, none⟩ v) z y S (j + 1) segs v vs := by
  have hbx : BxT 26 W' y #[.string S, vr, vs] := hO.2 y _ _ _ (by decide) h.box
  have hrb : BxT 26 W' z #[.string ⟨#[]⟩, .slice none 0 0, .slice none 0 0] := hO.2 z _ _ _ (by decide) h.rb
  have hzy : z ≠ y := by have := h.hy; omega
  refine ⟨h.hz, h.hy, h.hq, h.h0, hrb.other ⟨y, 1, none⟩ hzy v, hbx.set 1 v, ?_, (h.sgs.others hO (by decide) (by decide)).cell_other (a := ⟨y, 1, none⟩) hbx (by decide) (by decide) v, hb.setCell (p := ⟨y, 1, none⟩) (by have := h.hz; have := h.hy; simp only; omega) v, (h.keep.others hO).set hbx 1 v⟩
  have h1 := own_cell_other (a := ⟨y, 1, none⟩) ho hbx (by decide) v
  rw [revL_succ, nV_append]
  exact h1
theorem FitSt.segment {w0 wq W W1 W' : World} {z y : Nat} {S : ByteArray} {j : Nat} {segs : List (List Sp)} {vr vs v : Value} {F : List Sp} (h : FitSt w0 wq W z y S j segs vr vs) (hx : Ext W W1) (ho : OwnSS W' wq.heap.size 37 50 v (segs ++ [F])) (hb : Below wq.heap.size W W') (hO : Others W1 W' 37) :
    FitSt w0 wq (W'.setCell ⟨y, 2, none⟩ v) z y S j (segs ++ [F]) vr v := by
  have h1 := h.later hx
  have hbx : BxT 26 W' y #[.string S, vr, vs] := hO.2 y _ _ _ (by decide) h1.box
  have hrb : BxT 26 W' z #[.string ⟨#[]⟩, .slice none 0 0, .slice none 0 0] := hO.2 z _ _ _ (by decide) h1.rb
  have hzy : z ≠ y := by have := h.hy; omega
  exact ⟨h.hz, h.hy, h.hq, h.h0, hrb.other ⟨y, 2, none⟩ hzy v, hbx.set 2 v, own_cell_other (a := ⟨y, 2, none⟩) (hO.own (by decide) h1.rev) hbx (by decide) v, ho.cell_other (a := ⟨y, 2, none⟩) hbx (by decide) (by decide) v, (Below.trans h.ext (Below.mono hb h.h0.size)).setCell (p := ⟨y, 2, none⟩) (by have := h.hz; have := h.hy; simp only; omega) v, (h.keep.below hb).set hbx 2 v⟩
def segF (M : Int) (ls : List (List Sp)) : List (List Sp) := (chainL (ls.take 20) M).map normL
theorem fitR16_c (s : ByteArray) (A : Option Addr) (n c : Nat) (ls : List (List Sp)) (w : World) (_hs : s.size ≤ maxLen) (h : RdSS w A n c ls) (hls : ∀ l ∈ ls, ∀ x ∈ l, x.2.2.size ≤ maxLen)
    (S : ByteArray) (cs : List Nat) (TT : Nat) (hm1 : min (s.size : Int) 20 = (TT : Int)) (_hm2 : (if (20 : Int) < (s.size : Int) then (20 : Int) else (s.size : Int)) = (TT : Int)) (hTl : (TT : Int) ≤ (s.size : Int)) (_hsz : s.size ≤ 9223372036854775807)
    (HFIT : Hid (∀ w', Calls Tryd.prog 26 #[.string (s.extract 0 TT)] w' fun e w'' => e = .returned (.string S) ∧ Ext w' w'')) (hcl : cs.length ≤ 20) (hS : S.size ≤ 80) (HD : Hid (dec (bs S) = some cs)) :
    Calls Tryd.prog 8 #[.string s, .slice A n c] w fun e w' => Ext w w' ∧ ∃ A' k' c' B d, e = .returned (.agg #[.string S, .slice A' k' c', .slice B (segF cs.length ls).length d]) ∧ Own w' w.heap.size 3 1 (.slice A' k' c') k' (nV (revL (segF cs.length ls).length)) ∧ OwnSS w' w.heap.size 37 50 (.slice B (segF cs.length ls).length d) (segF cs.length ls) := by
  obtain ⟨i, hi, hz0, hz1, hz2⟩ := info_parts info_ss
  obtain ⟨ii, hi', hz0', hz1', hz2'⟩ := info_parts info_int
  have hcn : cntF (bs S) = (cs.length : Int) := cntF_some HD.out
  have HC : Hid (∀ w', Calls Tryd.prog 28 #[.string S] w' fun e w'' => e = .returned (.int .i64 (cs.length : Int)) ∧ Ext w' w'') := Lib.hid fun w' => by
    have h1 := countR_c S w' (by omega)
    rw [hcn] at h1; exact h1
  have HCH := Lib.hid (fun w' (hx : Ext w w') => chainR4_c A n c ls (cs.length : Int) w' (h.ext hx) hls (by omega) (by omega))
  have hwl : (chainL (ls.take 20) (cs.length : Int)).length = min 20 ls.length := by rw [chainL_len, List.length_take]
  have HOKF : Hid (∀ l ∈ chainL (ls.take 20) (cs.length : Int), Ok l ∧ l.length ≤ 1000) := Lib.hid fun l hl => by
    obtain ⟨g1, _, g3⟩ := (chain_seg (ls.take 20) (cs.length : Int) (by omega) (by rw [List.length_take]; omega)).2 l hl
    exact ⟨g1, by omega⟩
  unfold segF
  have hw20 : (chainL (ls.take 20) (cs.length : Int)).length ≤ 20 := by rw [hwl]; omega
  have HCH2 := HCH.out
  clear hcn hls h hwl HCH
  obtain ⟨WW, hWW⟩ : ∃ W, chainL (ls.take 20) (cs.length : Int) = W := ⟨_, rfl⟩
  rw [hWW] at HOKF hw20 HCH2 ⊢
  have HCH := Lib.hid HCH2
  clear hWW HCH2
  obtain ⟨NW, hNW⟩ : ∃ n, WW.length = n := ⟨_, rfl⟩
  have HNW := Lib.hid hNW
  rw [hNW] at hw20
  have hNM : (WW.map normL).length = NW := by rw [List.length_map, hNW]
  rw [hNM]
  clear hNW hNM
  obtain ⟨M, hM⟩ : ∃ m : Int, (cs.length : Int) = m := ⟨_, rfl⟩
  rw [hM] at HC HCH
  clear hM
  obtain ⟨W0, hW0⟩ : ∃ V, w.alloc (.cells #[.string ⟨#[]⟩, .slice none 0 0, .slice none 0 0] 26) = V := ⟨_, rfl⟩
  obtain ⟨z, hz⟩ : ∃ z, w.heap.size = z := ⟨_, rfl⟩
  have hX0 : Ext w W0 := by rw [← hW0]; exact (Ext.refl w).alloc _
  have hRB : BxT 26 W0 z #[.string ⟨#[]⟩, .slice none 0 0, .slice none 0 0] := by rw [← hW0, ← hz]; exact BxT.new w 26 _
  have hzw : w.heap.size ≤ z := by omega
  have hzW : z < W0.heap.size := hRB.lt
  have HW0 := Lib.hid hW0; have HZ := Lib.hid hz; have HX0 := Lib.hid hX0; have HRB := Lib.hid hRB
  clear hW0 hz hX0 hRB
  go_enter Tryd.func8, Tryd.ntmps8
  go_wp2_with fail
  rw [HW0.out, HZ.out]
  refine (HFIT.out _).mono ?_; rintro e w1 ⟨rfl, hx1⟩
  obtain ⟨W2, hW2⟩ : ∃ V, w1.alloc (.cells #[.int .i64 0] 3) = V := ⟨_, rfl⟩
  have hX2 : Ext w1 W2 := by rw [← hW2]; exact (Ext.refl w1).alloc _
  have hR2 : Own W2 w.heap.size 3 1 (.slice (some ⟨w1.heap.size, 0, none⟩) 1 1) 1 (nV (revL 0)) := by rw [← hW2]; exact Own.made w1 w.heap.size 3 1 1 #[.int .i64 0] (HX0.out.trans hx1).size (by omega) rfl
  obtain ⟨r0, hr0⟩ : ∃ r, w1.heap.size = r := ⟨_, rfl⟩
  rw [hr0] at hR2
  obtain ⟨y, hy⟩ : ∃ y, W2.heap.size = y := ⟨_, rfl⟩
  obtain ⟨W3, hW3⟩ : ∃ V, W2.alloc (.cells #[.string S, .slice (some ⟨r0, 0, none⟩) 1 1, .slice none 0 0] 26) = V := ⟨_, rfl⟩
  have hX3 : Ext W2 W3 := by rw [← hW3]; exact (Ext.refl W2).alloc _
  have hBX : BxT 26 W3 y #[.string S, .slice (some ⟨r0, 0, none⟩) 1 1, .slice none 0 0] := by rw [← hW3, ← hy]; exact BxT.new W2 26 _
  have hx03 : Ext W0 W3 := (hx1.trans hX2).trans hX3
  have hzy : z < y := by have := hx1.size; have := hX2.size; omega
  have HX03 := Lib.hid hx03; have HBX := Lib.hid hBX; have HR3 := Lib.hid (hR2.ext hX3)
  have hsz2 : W2.heap.size = w1.heap.size + 1 := by rw [← hW2, size_alloc]
  have hye : r0 + 1 = y := by omega
  have HYE := Lib.hid hye
  have HW2 := Lib.hid hW2; have HW3 := Lib.hid hW3; have HY := Lib.hid hy; have HR0 := Lib.hid hr0; have HSZ2 := Lib.hid hsz2
  clear hx1 hX2 hR2 hW2 hy hW3 hX3 hBX hx03 hr0 hsz2 hye
  go_wp2_with fail
  rw [HW2.out, HR0.out, HW3.out, HYE.out]
  refine (HC.out _).mono ?_; rintro e w4 ⟨rfl, hx4⟩
  go_wp2_with fail
  refine (HCH.out _ ((HX0.out.trans HX03.out).trans hx4)).mono ?_; rintro e wq ⟨vw, rfl, hx5, how⟩
  obtain ⟨aw, cw, rfl, hcw, _⟩ := how.slice HNW.out
  have hx35 := hx4.trans hx5
  have hyq : y < wq.heap.size := by have := HBX.out.lt; have := hx35.size; omega
  have HOW := Lib.hid how
  have HST0 : Hid (FitSt w wq wq z y S 0 ((WW.take 0).map normL) (.slice (some ⟨r0, 0, none⟩) 1 1) (.slice none 0 0)) := Lib.hid
    ⟨hzw, hzy, hyq, (HX0.out.trans HX03.out).trans hx35, HRB.out.ext (HX03.out.trans hx35), HBX.out.ext hx35, HR3.out.ext hx35, ⟨[], Own.nil _ _ _ _ (Nat.le_refl _), fun i l hl => by simp at hl⟩, (HX0.out.trans HX03.out).trans hx35, Keep2.refl _ _ _⟩
  clear how hx4 hx5 hx35
  go_wp2_with fail
  go_loopw [7] (fun iv wr => ∃ (j : Nat) (vr vs : Value), j ≤ NW ∧ iv = .int .i64 j ∧ Hid (FitSt w wq wr z y S j ((WW.take j).map normL) vr vs)) (fun iv _ => NW - (intOf iv).toNat)
  case atStart => exact ⟨0, _, _, by omega, rfl, HST0⟩
  case round =>
    clear HST0 HX03 HBX HR3 HC HCH HFIT
    obtain ⟨j, vr, vs, hj, rfl, HST⟩ := hrel
    obtain ⟨ra, rc, rfl, _⟩ := HST.out.rev.len
    have c0 : wr.cell? ⟨y, 0, none⟩ = some (.string S) := HST.out.box.cell rfl
    have c1 : wr.cell? ⟨y, 1, none⟩ = some (.slice ra (j + 1) rc) := HST.out.box.cell rfl
    have c2 : wr.cell? ⟨y, 2, none⟩ = some vs := HST.out.box.cell rfl
    by_cases hlt : j < NW
    · have dn : decide (j < NW) = true := by rw [decide_eq_true_eq]; exact hlt
      have hjl : j < WW.length := by have := HNW.out; omega
      obtain ⟨_, _, he, _, hrq⟩ := HOW.out.slice HNW.out
      injection he with e1 e2 e3
      subst e1; subst e3
      obtain ⟨bb, off, a, kc, rfl, hbq, _, _⟩ := hrq.at_ hlt hjl
      have HOR := Lib.hid (HST.out.keep.ownSS HOW.out (by decide) (by decide) (by decide) (by decide))
      have hF := HOKF.out _ (List.getElem_mem hjl)
      have HTK : Hid ((WW.take (j + 1)).map normL = (WW.take j).map normL ++ [normL WW[j]]) := Lib.hid (by rw [List.take_add_one, List.getElem?_eq_getElem hjl, List.map_append]; rfl)
      have hsl : ((WW.take j).map normL).length ≤ 1000 := by rw [List.length_map, List.length_take]; omega
      obtain ⟨F, hFF⟩ : ∃ F, WW[j] = F := ⟨_, rfl⟩
      have HFF := Lib.hid hFF
      rw [hFF] at hF HTK
      have i0 : (0 : Int) ≤ (j : Int) := by omega
      have i1 : (j : Int) < (NW : Int) := by omega
      obtain ⟨SG, hSG⟩ : ∃ X, (WW.take j).map normL = X := ⟨_, rfl⟩
      rw [hSG] at HST HTK hsl
      clear hSG hFF
      obtain ⟨v', w', happ, hown', hbel', hoth⟩ := app_newo (P := Tryd.prog) 24 24 3 ii _ 1 8 Tryd.underlying24 hi' hz0' hz1' hz2' rfl (by omega) (by omega)
        HST.out.ext HST.out.rev (by omega) 1 #[.int .i64 ((j : Int) + 1)] rfl (by omega) (by simp [Value.oneCell']) 3
      obtain ⟨va, vc, rfl, _⟩ := hown'.len
      have HAP := Lib.hid happ
      have HS2 := Lib.hid (HST.out.number hown' hbel' hoth)
      have hb1 : BxT 26 w' y #[.string S, .slice ra (j + 1) rc, vs] := hoth.2 y _ _ _ (by decide) HST.out.box
      have d1 : w'.cell? ⟨y, 1, none⟩ = some (.slice ra (j + 1) rc) := hb1.cell rfl
      have f1 := hb1.frozen 1
      clear happ hown' hbel' hoth hb1
      go_wp2_with (at_builtin; refine wpList_append_run rfl rfl HAP.out rfl rfl ?_)
      obtain ⟨wr2, hwr2⟩ : ∃ V, w'.setCell ⟨y, 1, none⟩ (.slice va (j + 1 + 1) vc) = V := ⟨_, rfl⟩
      rw [hwr2] at HS2 ⊢
      clear hwr2 d1 f1 HAP c0 c1 c2
      have g2 : wr2.cell? ⟨y, 2, none⟩ = some vs := HS2.out.box.cell rfl
      have f2 := HS2.out.box.frozen 2
      obtain ⟨_, _, he, _, hrr⟩ := (HS2.out.keep.ownSS HOW.out (by decide) (by decide) (by decide) (by decide)).slice HNW.out
      injection he with e1 e2 e3
      subst e1; subst e3
      obtain ⟨b2, o2, a2, kc2, he2, hb2, q0, hr⟩ := hrr.at_ hlt hjl
      injection he2 with he2; injection he2 with e4 e5; subst e4; subst e5
      rw [HFF.out] at q0 hr
      obtain ⟨k, hk⟩ : ∃ k, F.length = k := ⟨_, rfl⟩
      rw [hk] at q0 hr
      have HOF := Lib.hid (fun V (hx : Ext wr2 V) => ofR5_c a2 k kc2 F V (hr.ext hx) hk (by omega) hF.1)
      have HCC : Hid (∀ V, Below wq.heap.size wr2 V → Below wq.heap.size wr2 V ∧ V.cell? ⟨y, 2, none⟩ = some vs ∧ V.cell? ⟨bb, off + j, none⟩ = some (.slice a2 k kc2)) := Lib.hid fun V hV => ⟨hV, (hV.cell (p := ⟨y, 2, none⟩) hyq).trans g2, (hV.cell (p := ⟨bb, off + j, none⟩) hbq).trans q0⟩
      have hqs : wq.heap.size ≤ wr2.heap.size := HS2.out.keep.1
      have HSG := Lib.hid HS2.out.sgs
      clear hr hk hF HOR HST
      obtain ⟨sa, sc, rfl, _⟩ := HSG.out.rd
      refine region_T (fun V => Below wq.heap.size wr2 V ∧ V.cell? ⟨y, 2, none⟩ = some (.slice sa SG.length sc) ∧ V.cell? ⟨bb, off + j, none⟩ = some (.slice a2 k kc2)) 10 (by kernel_rfl) (HCC.out _ (Below.mono (Ext.refl _).drew hqs)) (fun hHeld => ?_)
      obtain ⟨Wd, hWd⟩ : ∃ x, wr2.drew = x := ⟨_, rfl⟩
      rw [hWd] at hHeld ⊢
      have hdx : Ext wr2 Wd := by rw [← hWd]; exact (Ext.refl _).drew
      clear hWd
      refine wpAnyT_take (i := 0) (v := ?_) rfl (by kernel_rfl) (fun _ _ _ h => h) (Or.inl ⟨by rfl, ?_⟩) (by assumption) ?_
      rotate_left
      · (intro W hSw; (try dsimp only at hSw); go_simp; (try with_reducible rfl))
      try simp only [Act.put, List.getElem_toArray, List.getElem_cons_succ, List.getElem_cons_zero, List.setIfInBounds_toArray, List.set_cons_zero, List.set_cons_succ]
      refine wpAnyT_take (i := 1) (v := ?_) rfl (by kernel_rfl) (fun _ _ _ h => h) (Or.inl ⟨by rfl, ?_⟩) (by assumption) ?_
      rotate_left
      · (intro W hSw; (try dsimp only at hSw); go_simp; (try with_reducible rfl))
      try simp only [Act.put, List.getElem_toArray, List.getElem_cons_succ, List.getElem_cons_zero, List.setIfInBounds_toArray, List.set_cons_zero, List.set_cons_succ]
      refine wpAnyT_take (i := 2) (v := ?_) rfl (by kernel_rfl) (fun _ _ _ h => h) (Or.inl ⟨by rfl, ?_⟩) (by assumption) ?_
      rotate_left
      · (intro W hSw; (try dsimp only at hSw); go_simp; (try with_reducible rfl))
      try simp only [Act.put, List.getElem_toArray, List.getElem_cons_succ, List.getElem_cons_zero, List.setIfInBounds_toArray, List.set_cons_zero, List.set_cons_succ]
      refine wpAnyT_take (i := 3) (v := ?_) rfl (by kernel_rfl) (fun _ _ _ h => h) (Or.inl ⟨by rfl, ?_⟩) (by assumption) ?_
      rotate_left
      · (intro W hSw; (try dsimp only at hSw); go_simp; (try with_reducible rfl))
      try simp only [Act.put, List.getElem_toArray, List.getElem_cons_succ, List.getElem_cons_zero, List.setIfInBounds_toArray, List.set_cons_zero, List.set_cons_succ]
      refine wpAnyT_take (i := 4) (v := ?_) rfl (by kernel_rfl) (fun _ _ _ h => h) (Or.inl ⟨by rfl, ?_⟩) (by assumption) ?_
      rotate_left
      · (intro W hSw; (try dsimp only at hSw); go_simp; (try with_reducible rfl))
      try simp only [Act.put, List.getElem_toArray, List.getElem_cons_succ, List.getElem_cons_zero, List.setIfInBounds_toArray, List.set_cons_zero, List.set_cons_succ]
      refine wpAnyT_take (i := 5) (v := ?_) rfl (by kernel_rfl) (fun _ _ _ h => h) (Or.inl ⟨by rfl, ?_⟩) (by assumption) ?_
      rotate_left
      · (intro W hSw; (try dsimp only at hSw); go_simp; (try with_reducible rfl))
      try simp only [Act.put, List.getElem_toArray, List.getElem_cons_succ, List.getElem_cons_zero, List.setIfInBounds_toArray, List.set_cons_zero, List.set_cons_succ]
      refine wpAnyT_one (i := 6) rfl (by kernel_rfl) (fun K hK => ?_)
      go_simp
      refine (HOF.out _ hdx).mono ?_; rintro e w1 ⟨v1, rfl, hx1, own1⟩
      obtain ⟨a1, c1, rfl, _⟩ := own1.len
      have hd1 := hdx.trans hx1
      have hB1 : wq.heap.size ≤ Wd.heap.size := Nat.le_trans hqs hdx.size
      have hbw1 : Below wq.heap.size wr2 w1 := Below.mono hd1 hqs
      refine hK.out _ _ (fun _ => HCC.out _ hbw1) (fun hH => ?_)
      replace hHeld := hH (by decide)
      clear hK K hH
      try simp only [Act.put, List.getElem_toArray, List.getElem_cons_succ, List.getElem_cons_zero, List.setIfInBounds_toArray, List.set_cons_zero, List.set_cons_succ]
      refine wpAnyT_one (i := 7) rfl (by kernel_rfl) (fun K hK => ?_)
      go_simp
      refine hK.out _ _ (fun _ => HCC.out _ (hbw1.alloc (Nat.le_trans hB1 hx1.size) _)) (fun hH => ?_)
      replace hHeld := hH (by decide)
      clear hK K hH
      try simp only [Act.put, List.getElem_toArray, List.getElem_cons_succ, List.getElem_cons_zero, List.setIfInBounds_toArray, List.set_cons_zero, List.set_cons_succ]
      refine wpAnyT_one (i := 8) rfl (by kernel_rfl) (fun K hK => ?_)
      obtain ⟨nF, hnF⟩ : ∃ nF, (normL F).length = nF := ⟨_, rfl⟩
      rw [hnF] at own1 ⊢
      have HPU := Lib.hid (fit_push (P := Tryd.prog) Tryd.underlying22 hi hz0 hz1 hz2 rfl (by decide) HSG.out hd1 hsl own1 hB1 hnF hbw1)
      refine step_append_ex (by rfl) _ _ _ (by rfl) (by rfl) (by rfl) HPU.out ?_
      rintro v3 w2 ⟨hss2, hbel2, hoth2⟩
      obtain ⟨va3, vc3, rfl, _⟩ := hss2.rd
      have hf2 : w2.frozen? ⟨y, 2, none⟩ = false := (hbel2.frozen (p := ⟨y, 2, none⟩) hyq).trans f2
      refine hK.out _ _ (fun _ => HCC.out _ hbel2) (fun hH => ?_)
      replace hHeld := hH (by decide)
      clear hK K hH
      try simp only [Act.put, List.getElem_toArray, List.getElem_cons_succ, List.getElem_cons_zero, List.setIfInBounds_toArray, List.set_cons_zero, List.set_cons_succ]
      refine wpAnyT_take (i := 9) (v := ?_) rfl (by kernel_rfl) (fun _ _ _ h => h) (Or.inl ⟨by rfl, ?_⟩) (by assumption) ?_
      rotate_left
      · (intro W hSw; (try dsimp only at hSw); go_simp; (try with_reducible rfl))
      try simp only [Act.put, List.getElem_toArray, List.getElem_cons_succ, List.getElem_cons_zero, List.setIfInBounds_toArray, List.set_cons_zero, List.set_cons_succ]
      refine wpAnyT_one (i := 10) rfl (by kernel_rfl) (fun K hK => ?_)
      go_simp
      refine hK.out _ _ (fun h => absurd rfl h) (fun _ => ?_)
      clear hK K hHeld
      try simp only [Act.put, List.getElem_toArray, List.getElem_cons_succ, List.getElem_cons_zero, List.setIfInBounds_toArray, List.set_cons_zero, List.set_cons_succ]
      refine wpAnyT_done (by kernel_rfl) ?_ _
      have hs3 := HS2.out.segment hd1 hss2 hbel2 hoth2
      rw [List.length_append, List.length_singleton, ← HTK.out] at hs3
      have HS3 := Lib.hid hs3
      clear hs3
      go_wp2_with fail
      go_roundw
      case rel => exact ⟨j + 1, _, _, by omega, by go_num, HS3⟩
      case measure => simp [intOf]; omega
    · obtain rfl : j = NW := by omega
      have dn : decide (j < j) = false := by rw [decide_eq_false_iff_not]; omega
      have hst := HST.out
      rw [show WW.take j = WW by rw [← HNW.out]; exact List.take_length] at hst
      have k0 : wr.cell? ⟨z, 0, none⟩ = some (.string ⟨#[]⟩) := hst.rb.cell rfl
      have k1 : wr.cell? ⟨z, 1, none⟩ = some (.slice none 0 0) := hst.rb.cell rfl
      have k2 : wr.cell? ⟨z, 2, none⟩ = some (.slice none 0 0) := hst.rb.cell rfl
      have f0 := hst.rb.frozen 0; have f1 := hst.rb.frozen 1; have f2 := hst.rb.frozen 2
      have HSF := Lib.hid hst
      clear hst HST
      obtain ⟨sa, sc, rfl, _⟩ := HSF.out.sgs.slice (n := j) (by rw [List.length_map]; exact HNW.out)
      go_wp2_with fail
      refine bodyPost_ret (results_cell_row rfl _ _ z _ _ (0, 0) _ rfl (((HSF.out.rb.set 0 (.string S)).set 1 (.slice ra (j + 1) rc)).set 2 (.slice sa j sc)) Tryd.underlying26 rfl (by kernel_rfl)) rfl ?_
      have hst := HSF.out
      have r1 := hst.rb.set 0 (.string S); have r2 := r1.set 1 (.slice ra (j + 1) rc)
      have o1 := own_cell_other (a := ⟨z, 0, none⟩) hst.rev hst.rb (by decide) (.string S)
      have o2 := own_cell_other (a := ⟨z, 1, none⟩) o1 r1 (by decide) (.slice ra (j + 1) rc)
      have o3 := own_cell_other (a := ⟨z, 2, none⟩) o2 r2 (by decide) (.slice sa j sc)
      have s1 := hst.sgs.cell_other (a := ⟨z, 0, none⟩) hst.rb (by decide) (by decide) (.string S)
      have s2 := s1.cell_other (a := ⟨z, 1, none⟩) r1 (by decide) (by decide) (.slice ra (j + 1) rc)
      have s3 := s2.cell_other (a := ⟨z, 2, none⟩) r2 (by decide) (by decide) (.slice sa j sc)
      have hss := s3.more hst.h0.size
      exact ⟨((hst.ext.setCell (p := ⟨z, 0, none⟩) hst.hz _).setCell (p := ⟨z, 1, none⟩) hst.hz _).setCell (p := ⟨z, 2, none⟩) hst.hz _, ra, j + 1, rc, _, _, rfl, o3, hss⟩
end Go.Proofs.YtgcaphjjigpjlaaDoor
