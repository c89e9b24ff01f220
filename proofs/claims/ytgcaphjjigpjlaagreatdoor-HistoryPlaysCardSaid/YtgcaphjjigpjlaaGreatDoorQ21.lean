/- Packed: P11. -/
import Derived.ArgAppend
import Derived.BigQuiet
import Derived.BigRegion
import Derived.ChangeAlike
import Derived.ChangeOld
import Derived.Deep.Cut
import Derived.Deep.CutRange
import Derived.Deep.DrawnRows
import Derived.Deep.MidRow
import Derived.Deep.QuietTactic
import Derived.Deep.RegionHeld3
import Derived.Deep.RegionWith
import Derived.Deep.Slices
import Derived.Deep.Upon
import Derived.Defers
import Derived.Laws.AppendOwnNone
import Derived.Laws.BytesArg
import Derived.Laws.IdiomCopy
import Derived.Laws.MakeOwn
import Derived.Laws.ResultCell
import Derived.Laws.Rows
import Derived.Lib.AppendStr
import Derived.Lib.Builder
import Derived.Lib.DecodeN
import Derived.Lib.Hide
import Derived.Lib.Strings
import Derived.Lib.UnsafeStr
import Derived.LoopIn
import Derived.LoopNIn
import Derived.OpenShut
import Derived.OwnWalkIn
import Derived.ProofKit
import Derived.RangeFuncBound
import Derived.RangeFuncCalls
import Derived.RangeFuncLeaves
import Derived.RangeFuncNested
import Derived.RegionTactic
import Derived.Shelf.Abstract
import Derived.Shelf.RegionOpen
import Derived.ShutString
import Derived.Sort.CutIn
import Derived.StillTail
import Derived.StillTailTactics
import Derived.TacticsInMore
import Derived.Test.YtgcaphjjigpjlaaGreatDoorProg
import Derived.Test.YtgcaphjjigpjlaaGreatDoorShelf
import Derived.WalkKit
import Derived.WalkLawsBesides
import Derived.WalkSpells
import Derived.Test.YtgcaphjjigpjlaaGreatDoorQ00
import Derived.Test.YtgcaphjjigpjlaaGreatDoorQ01
import Derived.Test.YtgcaphjjigpjlaaGreatDoorQ02
import Derived.Test.YtgcaphjjigpjlaaGreatDoorQ03
import Derived.Test.YtgcaphjjigpjlaaGreatDoorQ04
import Derived.Test.YtgcaphjjigpjlaaGreatDoorQ05
import Derived.Test.YtgcaphjjigpjlaaGreatDoorQ06
import Derived.Test.YtgcaphjjigpjlaaGreatDoorQ07
import Derived.Test.YtgcaphjjigpjlaaGreatDoorQ08
import Derived.Test.YtgcaphjjigpjlaaGreatDoorQ09
import Derived.Test.YtgcaphjjigpjlaaGreatDoorQ10
import Derived.Test.YtgcaphjjigpjlaaGreatDoorQ11
import Derived.Test.YtgcaphjjigpjlaaGreatDoorQ12
import Derived.Test.YtgcaphjjigpjlaaGreatDoorQ15
import Derived.Test.YtgcaphjjigpjlaaGreatDoorQ16
import Derived.Test.YtgcaphjjigpjlaaGreatDoorQ17
namespace Go.Proofs.YtgcaphjjigpjlaaGreatDoor
open Go.RowKit
set_option maxRecDepth 100000
set_option maxHeartbeats 4000000
set_option linter.unusedSimpArgs false
theorem both_of_wp {P : Program} {f : FuncId} {fn : Func} {c : Code} {args : Array Value} {w : World} {R : Ending → World → Prop}
    (hf : P.funcs[f]? = some fn) (hb : fn.body = some c)
    (h : c.wp P (bodyPost P fn R) { tmps := args ++ Array.replicate (fn.ntmps - args.size) undef, defers := [] } w) :
    Calls P f args w R ∧ ∀ u, CallsD P f args u w fun e u' w' => u' = u ∧ R e w' :=
  ⟨calls_of_wp hf hb h, fun _ => callsD_of_wp hf hb h⟩
abbrev RBoxO (W : World) (B : Nat) (vs : Array Value) : Prop := BxT 124 W B vs
def SteppedO (x : Nat) (A : Option Addr) (q c : Nat) (l : List Sp) (W W' : World) : Prop :=
  KS W.heap.size x x W W' ∧ ∃ A' q' c', RBoxO W' x (rstV (hdS l) (.slice A' q' c')) ∧ (∀ V, RdO V A q c l → RdO V A' q' c' l.tail) ∧ ∀ y, Awy y q A → Awy y q' A'
def PiecedO (x : Nat) (A : Option Addr) (q c : Nat) (l L : List Sp) (W W' : World) : Prop :=
  KS W.heap.size x x W W' ∧ ∃ A' q' c', RBoxO W' x (rstV (hdS L) (.slice A' q' c')) ∧ (∀ V, RdO V A q c l → RdO V A' q' c' L.tail) ∧ ∀ y, Awy y q A → Awy y q' A'
theorem stepO_c (x : Nat) (s0 : Sp) (A : Option Addr) (q c : Nat) (l : List Sp) (W : World) (hb : RBoxO W x (rstV s0 (.slice A q c))) (hr : RdO W A q c l) (ha : Awy x q A) :
    (Calls Tryz.prog 99 #[.pointer (some ⟨x, 0, none⟩)] W fun e W' => (∃ v, e = .returned v) ∧ SteppedO x A q c l W W') ∧ ∀ u, CallsD Tryz.prog 99 #[.pointer (some ⟨x, 0, none⟩)] u W fun e u' W' => u' = u ∧ (∃ v, e = .returned v) ∧ SteppedO x A q c l W W' := by
  unfold rstV at hb
  have c0 : W.cell? ⟨x, 0, none⟩ = some (.int .i64 s0.1) := hb.cell rfl; have c1 : W.cell? ⟨x, 1, none⟩ = some (.int .i64 s0.2.1) := hb.cell rfl; have c2 : W.cell? ⟨x, 2, none⟩ = some (.string s0.2.2) := hb.cell rfl; have c3 : W.cell? ⟨x, 3, none⟩ = some (.slice A q c) := hb.cell rfl
  have f0 := hb.frozen 0; have f1 := hb.frozen 1; have f2 := hb.frozen 2; have f3 := hb.frozen 3
  have HB := Lib.hid hb
  have hql := hr.1
  cases l with
  | nil =>
    simp only [List.length_nil] at hql
    subst hql
    have HR := Lib.hid hr
    clear hb hr ha
    refine both_of_wp Tryz.func99 rfl ?_
    simp only [Tryz.ntmps99, List.size_toArray, List.length_cons, List.length_nil, Nat.reduceAdd, Nat.reduceSub, Array.replicate_succ, Array.replicate_zero, List.push_toArray, List.append_toArray, List.nil_append, List.cons_append]
    go_wp2_with fail
    go_end0
    refine ⟨⟨_, rfl⟩, (((KS.refl W.heap.size x x W).set ⟨x, 0, none⟩ _ (.inl rfl)).set ⟨x, 1, none⟩ _ (.inl rfl)).set ⟨x, 2, none⟩ _ (.inl rfl), A, 0, c, ((HB.out.set 0 (.int .i64 0)).set 1 (.int .i64 0)).set 2 (.string ⟨#[]⟩), fun _ h => h, fun _ h => h⟩
  | cons s r =>
    simp only [List.length_cons] at hql
    obtain ⟨m, hm⟩ : ∃ m, r.length = m := ⟨_, rfl⟩
    rw [hm] at hql
    subst hql
    obtain ⟨b, o, rfl, hbb, q0, q1, q2⟩ := sp_at hr.2 hr.1 (show 0 < m + 1 by omega)
    simp only [List.getElem_cons_zero, Nat.zero_mul, Nat.add_zero] at q0 q1 q2
    have hne : b ≠ x := ha (by omega) b o rfl
    have hcc : m + 1 ≤ c := by obtain ⟨_, _, hv, hc⟩ := hr.2.len; injection hv with _ _ e; omega
    have HR := Lib.hid (fun V (h : RdO V (some ⟨b, o, none⟩) (m + 1) c (s :: r)) => rdO_behind h)
    have HA := Lib.hid (fun y (h : Awy y (m + 1) (some ⟨b, o, none⟩)) => h.behind (c := c) (k := 1) (by omega))
    obtain ⟨AD, hAD⟩ : ∃ AD : Option Addr, (if c = 1 then some ⟨b, o, none⟩ else some ⟨b, o + 1 * 3, none⟩) = AD := ⟨_, rfl⟩
    rw [hAD] at HR HA
    simp only [Nat.one_mul] at hAD
    have y0 : (1 : Int) ≤ (m : Int) + 1 := by omega
    have y1 : (m : Int) + 1 ≤ (c : Int) := by omega
    have y2 : (0 : Int) < (m : Int) + 1 := by omega
    clear hb hr ha hm
    obtain ⟨s1, s2, s3⟩ := s
    simp only at q0 q1 q2
    refine both_of_wp Tryz.func99 rfl ?_
    simp only [Tryz.ntmps99, List.size_toArray, List.length_cons, List.length_nil, Nat.reduceAdd, Nat.reduceSub, Array.replicate_succ, Array.replicate_zero, List.push_toArray, List.append_toArray, List.nil_append, List.cons_append]
    go_wp2_with fail
    obtain ⟨W1, hW1⟩ : ∃ W1, ((W.setCell ⟨x, 0, none⟩ (.int .i64 0)).setCell ⟨x, 1, none⟩ (.int .i64 0)).setCell ⟨x, 2, none⟩ (.string ⟨#[]⟩) = W1 := ⟨_, rfl⟩
    have HB1 : Hid (RBoxO W1 x #[.int .i64 0, .int .i64 0, .string ⟨#[]⟩, .slice (some ⟨b, o, none⟩) (m + 1) c]) := Lib.hid (by rw [← hW1]; exact ((HB.out.set 0 (.int .i64 0)).set 1 (.int .i64 0)).set 2 (.string ⟨#[]⟩))
    have HK1 : Hid (KS W.heap.size x x W W1) := Lib.hid (by rw [← hW1]; exact (((KS.refl W.heap.size x x W).set ⟨x, 0, none⟩ _ (.inl rfl)).set ⟨x, 1, none⟩ _ (.inl rfl)).set ⟨x, 2, none⟩ _ (.inl rfl))
    rw [hW1]
    have hk1 := HK1.out.block b hbb hne hne
    rw [← World.cell?_of_block (a := ⟨b, o, none⟩) hk1] at q0
    rw [← World.cell?_of_block (a := ⟨b, o + 1, none⟩) hk1] at q1
    rw [← World.cell?_of_block (a := ⟨b, o + 2, none⟩) hk1] at q2
    clear c0 c1 c2 c3 f0 f1 f2 f3 hk1 hW1 hbb
    have c0 : W1.cell? ⟨x, 0, none⟩ = some (.int .i64 0) := HB1.out.cell rfl
    have c1 : W1.cell? ⟨x, 1, none⟩ = some (.int .i64 0) := HB1.out.cell rfl
    have c2 : W1.cell? ⟨x, 2, none⟩ = some (.string ⟨#[]⟩) := HB1.out.cell rfl
    have c3 : W1.cell? ⟨x, 3, none⟩ = some (.slice (some ⟨b, o, none⟩) (m + 1) c) := HB1.out.cell rfl
    have f0 := HB1.out.frozen 0; have f1 := HB1.out.frozen 1; have f2 := HB1.out.frozen 2; have f3 := HB1.out.frozen 3
    go_region
    go_end0
    exact ⟨⟨_, rfl⟩, HK1.out.trans ((((((KS.refl W.heap.size x x W1).set ⟨x, 0, none⟩ _ (.inl rfl)).set ⟨x, 1, none⟩ _ (.inl rfl)).set ⟨x, 2, none⟩ _ (.inl rfl)).set ⟨x, 3, none⟩ _ (.inl rfl)).trans (KS.of_ext x x (by simpa [World.setCell] using HK1.out.size) (Ext.refl _).drew)),
      AD, m, c - 1, (((HB1.out.set 0 (.int .i64 s1)).set 1 (.int .i64 s2)).set 2 (.string s3)).set 3 (.slice AD m (c - 1)), fun V h => HR.out V h, fun y h => HA.out y h⟩
theorem wholeO_c (x : Nat) (s0 : Sp) (A : Option Addr) (q c : Nat) (l : List Sp) (W : World) (hb : RBoxO W x (rstV s0 (.slice A q c))) (hr : RdO W A q c l) (ha : Awy x q A) :
    Calls Tryz.prog 96 #[.pointer (some ⟨x, 0, none⟩)] W fun e W' => e = .returned (.agg #[.int .i64 s0.1, .int .i64 s0.2.1, .string s0.2.2]) ∧ SteppedO x A q c l W W' := by
  have c0 : W.cell? ⟨x, 0, none⟩ = some (.int .i64 s0.1) := hb.cell rfl; have c1 : W.cell? ⟨x, 1, none⟩ = some (.int .i64 s0.2.1) := hb.cell rfl; have c2 : W.cell? ⟨x, 2, none⟩ = some (.string s0.2.2) := hb.cell rfl
  have HB := Lib.hid hb; have HR := Lib.hid hr; have HA := Lib.hid ha
  have hw := (Ext.refl W).alloc (.cells #[.int .i64 0, .int .i64 0, .string ⟨#[]⟩] 60)
  have d0 := ext_cell hw c0; have d1 := ext_cell hw c1; have d2 := ext_cell hw c2
  have hlt := HB.out.lt
  clear hb hr ha
  go_enter_defers Tryz.func96, Tryz.ntmps96
  go_wp2_with fail
  have hx2 := (Ext.refl W).alloc (.cells #[.int .i64 s0.1, .int .i64 s0.2.1, .string s0.2.2] 60)
  have b0 := BxT.new W 60 #[.int .i64 s0.1, .int .i64 s0.2.1, .string s0.2.2]
  have hsz : (W.alloc (.cells #[.int .i64 s0.1, .int .i64 s0.2.1, .string s0.2.2] 60)).heap.size = W.heap.size + 1 := size_alloc _ _
  obtain ⟨W2, hW2⟩ : ∃ W2, W.alloc (.cells #[.int .i64 s0.1, .int .i64 s0.2.1, .string s0.2.2] 60) = W2 := ⟨_, rfl⟩
  rw [hW2] at hx2 b0 hsz ⊢
  refine leaves_cons (f := 99) (args := #[.pointer (some ⟨x, 0, none⟩)]) (by simp) (by simp [go_sem]) ?_
  refine ((stepO_c x s0 A q c l W2 (HB.out.ext hx2) (HR.out.ext hx2) HA.out).2 .returning).mono ?_
  rintro e u' W3 ⟨rfl, ⟨v, rfl⟩, hk, A', q', c', g1, g2, g3⟩
  have n0 := b0.ks hk (by omega) (by omega) (by omega)
  exact ⟨_, results_cell_row rfl _ _ W.heap.size _ _ (0, 0) _ rfl n0 Tryz.underlying60 rfl (by kernel_rfl), rfl, (KS.of_ext x x (Nat.le_refl _) hx2).trans (hk.mono (by omega)), A', q', c', g1, g2, g3⟩
theorem shortO_d (x : Nat) (k : Int) (N M D : Nat) (V : Value) (W : World) (u : FrameMode) (hb : RBoxO W x #[.int .i64 k, .int .i64 (N : Int), .string ⟨#[]⟩, V]) (hN : N ≤ 2000000000) (hM : M ≤ N) (hD : N - M = D) :
    CallsD Tryz.prog 106 #[.pointer (some ⟨x, 0, none⟩), .int .i64 (M : Int)] u W fun e u' W' => u' = u ∧ (∃ v, e = .returned v) ∧ W' = W.setCell ⟨x, 1, none⟩ (.int .i64 (D : Int)) := by
  have c1 : W.cell? ⟨x, 1, none⟩ = some (.int .i64 (N : Int)) := hb.cell rfl
  have f1 := hb.frozen 1
  have hsub : (N : Int) - (M : Int) = (D : Int) := by omega
  have hw : IntKind.i64.wrap ((N : Int) - (M : Int)) = (D : Int) := by rw [IntKind.wrap_i64]; omega
  have hd0 : D ≤ 2000000000 := by omega
  clear hb hN hM hD
  go_enter_d Tryz.func106, Tryz.ntmps106
  go_wp2_with fail
  go_end0
  exact ⟨⟨_, rfl⟩, rfl⟩
theorem pieceO_c (x : Nat) (k : Int) (N M : Nat) (A : Option Addr) (q c : Nat) (l L : List Sp) (W : World) (hb : RBoxO W x (rstV (k, (N : Int), ⟨#[]⟩) (.slice A q c))) (hr : RdO W A q c l) (ha : Awy x q A)
    (hN : N ≤ 2000000000) (hM : M ≤ N) (hL : L = if N = M then l else (k, (N : Int) - (M : Int), ⟨#[]⟩) :: l) :
    Calls Tryz.prog 98 #[.pointer (some ⟨x, 0, none⟩), .int .i64 (M : Int)] W fun e W' =>
      e = .returned (.agg #[.int .i64 k, .int .i64 (M : Int), .string ⟨#[]⟩]) ∧ PiecedO x A q c l L W W' := by
  unfold rstV at hb
  have c0 : W.cell? ⟨x, 0, none⟩ = some (.int .i64 k) := hb.cell rfl; have c1 : W.cell? ⟨x, 1, none⟩ = some (.int .i64 (N : Int)) := hb.cell rfl; have c2 : W.cell? ⟨x, 2, none⟩ = some (.string ⟨#[]⟩) := hb.cell rfl
  have HB := Lib.hid hb; have HR := Lib.hid hr; have HA := Lib.hid ha
  have hw := (Ext.refl W).alloc (.cells #[.int .i64 0, .int .i64 0, .string ⟨#[]⟩] 60)
  have d0 := ext_cell hw c0; have d1 := ext_cell hw c1; have d2 := ext_cell hw c2
  have hlt := HB.out.lt
  clear hb hr ha
  by_cases hc : N = M
  · rw [if_pos hc] at hL
    subst hc
    have HL := Lib.hid hL
    clear hL hM
    have HW := Lib.hid fun w' hx => wholeO_c x (k, (N : Int), ⟨#[]⟩) A q c l w' (BxT.ext HB.out hx) (HR.out.ext hx) HA.out
    go_enter_defers Tryz.func98, Tryz.ntmps98
    go_wp2_with fail
    have b0 := BxT.new W 60 #[.int .i64 0, .int .i64 0, .string ⟨#[]⟩]
    have hsz : (W.alloc (.cells #[.int .i64 0, .int .i64 0, .string ⟨#[]⟩] 60)).heap.size = W.heap.size + 1 := size_alloc _ _
    obtain ⟨W2, hW2⟩ : ∃ W2, W.alloc (.cells #[.int .i64 0, .int .i64 0, .string ⟨#[]⟩] 60) = W2 := ⟨_, rfl⟩
    rw [hW2] at hw b0 hsz ⊢
    refine (HW.out _ hw).mono ?_; rintro e W3 ⟨rfl, hk, A', q', c', g1, g2, g3⟩
    have n0 := b0.ks hk (by omega) (by omega) (by omega)
    have k0 : W3.cell? ⟨W.heap.size, 0, none⟩ = some (.int .i64 0) := n0.cell rfl; have k1 : W3.cell? ⟨W.heap.size, 1, none⟩ = some (.int .i64 0) := n0.cell rfl; have k2 : W3.cell? ⟨W.heap.size, 2, none⟩ = some (.string ⟨#[]⟩) := n0.cell rfl
    have f0 := n0.frozen 0; have f1 := n0.frozen 1; have f2 := n0.frozen 2
    have HN0 := Lib.hid n0; have HG1 := Lib.hid g1
    have HK : Hid (KS W.heap.size x x W W3) := Lib.hid ((KS.of_ext x x (Nat.le_refl _) hw).trans (hk.mono (by omega)))
    clear c0 c1 c2 d0 d1 d2 hw b0 n0 g1 hk hW2 hsz HW
    go_wp2_with fail
    have h1 := ((HN0.out.set 0 (.int .i64 k)).set 1 (.int .i64 (N : Int))).set 2 (.string ⟨#[]⟩)
    refine ⟨_, results_cell_row rfl _ _ W.heap.size _ _ (0, 0) _ rfl h1 Tryz.underlying60 rfl (by kernel_rfl), rfl, ?_⟩
    rw [HL.out]
    exact ⟨((HK.out.set ⟨W.heap.size, 0, none⟩ _ (.inr (.inr (Nat.le_refl _)))).set ⟨W.heap.size, 1, none⟩ _ (.inr (.inr (Nat.le_refl _)))).set ⟨W.heap.size, 2, none⟩ _ (.inr (.inr (Nat.le_refl _))),
      A', q', c', ((HG1.out.other ⟨W.heap.size, 0, none⟩ (Nat.ne_of_lt hlt) _).other ⟨W.heap.size, 1, none⟩ (Nat.ne_of_lt hlt) _).other ⟨W.heap.size, 2, none⟩ (Nat.ne_of_lt hlt) _, g2, g3⟩
  · rw [if_neg hc] at hL
    have ht : ((M : Int) == (N : Int)) = false := by rw [beq_eq_false_iff_ne]; omega
    obtain ⟨D, hD⟩ : ∃ D, N - M = D := ⟨_, rfl⟩
    have hDi : (N : Int) - (M : Int) = (D : Int) := by omega
    rw [hDi] at hL
    have HL := Lib.hid hL; have HD := Lib.hid hD
    clear hc hL hD hDi
    go_enter_defers Tryz.func98, Tryz.ntmps98
    go_wp2_with fail
    go_region
    have hx2 := ((Ext.refl W).alloc (.cells #[.int .i64 k, .int .i64 (M : Int), .string ⟨#[]⟩] 60)).drew
    have b0 := (BxT.new W 60 #[.int .i64 k, .int .i64 (M : Int), .string ⟨#[]⟩]).ext (Ext.refl _).drew
    have hsz : (W.alloc (.cells #[.int .i64 k, .int .i64 (M : Int), .string ⟨#[]⟩] 60)).drew.heap.size = W.heap.size + 1 := size_alloc _ _
    obtain ⟨W2, hW2⟩ : ∃ W2, (W.alloc (.cells #[.int .i64 k, .int .i64 (M : Int), .string ⟨#[]⟩] 60)).drew = W2 := ⟨_, rfl⟩
    rw [hW2] at hx2 b0 hsz ⊢
    have hbx := BxT.ext HB.out hx2
    go_wp2_with fail
    refine leaves_cons (f := 106) (args := #[.pointer (some ⟨x, 0, none⟩), .int .i64 (M : Int)]) (by simp) (by simp [go_sem]) ?_
    refine (shortO_d x k N M D _ W2 .returning hbx hN hM HD.out).mono ?_
    rintro e u' W3 ⟨rfl, ⟨v, rfl⟩, rfl⟩
    have n0 := b0.other ⟨x, 1, none⟩ (by simp only; omega) (.int .i64 (D : Int))
    refine ⟨_, results_cell_row rfl _ _ W.heap.size _ _ (0, 0) _ rfl n0 Tryz.underlying60 rfl (by kernel_rfl), rfl, ?_⟩
    rw [HL.out]
    exact ⟨(KS.of_ext x x (Nat.le_refl _) hx2).set ⟨x, 1, none⟩ _ (.inl rfl), A, q, c, hbx.set 1 (.int .i64 (D : Int)), fun _ h => h, fun _ h => h⟩
theorem ext_set {A B : World} (h : Ext A B) (p : Addr) (v : Value) (hp : A.heap.size ≤ p.block) : Ext A (B.setCell p v) :=
  Below.trans h ⟨rfl, rfl, rfl, by simp [World.setCell], fun k hk => Below.heap_setCell _ _ _ _ (by omega)⟩
theorem keptO_c (k n : Int) (t : ByteArray) (N : Nat) (w : World) [Tab w] (ht : t.size ≤ 1000000000) (hN : outL [(k, n, t)] = (N : Int)) (hb : N ≤ 1000000000) :
    Calls Tryz.prog 95 #[.agg #[.int .i64 k, .int .i64 n, .string t]] w fun e w' => e = .returned (.agg #[.int .i64 1, .int .i64 (N : Int), .string ⟨#[]⟩]) ∧ Ext w w' := by
  have HO : Hid (∀ w' B, Ext w w' → Rd w' 3 (.slice (some ⟨B, 0, none⟩) 1 1) 1 (spCells [(k, n, t)]) → Calls Tryz.prog 30 #[.slice (some ⟨B, 0, none⟩) 1 1] w' fun e w'' => e = .returned (.int .i64 (N : Int)) ∧ Ext w' w'') := Lib.hid fun w' B hx hr => by
    have hTb := tab_ext hx
    have h := out4_c (some ⟨B, 0, none⟩) 1 1 [(k, n, t)] w' hr rfl (by omega) (fun s hs => by rw [List.mem_singleton] at hs; subst hs; exact ht)
    rw [hN, show wrap64 (N : Int) = (N : Int) by unfold wrap64; omega] at h
    exact h
  clear hN
  have hw := (((Ext.refl w).alloc (.cells #[.int .i64 k, .int .i64 n, .string t] 60)).alloc (.cells #[.int .i64 0, .int .i64 0, .string ⟨#[]⟩] 60)).alloc (.cells #[.int .i64 k, .int .i64 n, .string t] 60)
  have b0 := ((BxT.new (w.alloc (.cells #[.int .i64 k, .int .i64 n, .string t] 60)) 60 #[.int .i64 0, .int .i64 0, .string ⟨#[]⟩]).ext ((Ext.refl _).alloc (.cells #[.int .i64 k, .int .i64 n, .string t] 60)))
  rw [size_alloc] at b0
  have hr : Rd (((w.alloc (.cells #[.int .i64 k, .int .i64 n, .string t] 60)).alloc (.cells #[.int .i64 0, .int .i64 0, .string ⟨#[]⟩] 60)).alloc (.cells #[.int .i64 k, .int .i64 n, .string t] 60)) 3 (.slice (some ⟨w.heap.size + 1 + 1, 0, none⟩) 1 1) 1 (spCells [(k, n, t)]) := rd_made3 (by rw [size_alloc, size_alloc]) (Ext.refl _)
  go_enter Tryz.func95, Tryz.ntmps95
  go_wp2_with fail
  refine (HO.out _ _ hw hr).mono ?_; rintro e w1 ⟨rfl, hx1⟩
  have n0 := b0.ext hx1
  have k0 : w1.cell? ⟨w.heap.size + 1, 0, none⟩ = some (.int .i64 0) := n0.cell rfl; have k1 : w1.cell? ⟨w.heap.size + 1, 1, none⟩ = some (.int .i64 0) := n0.cell rfl; have k2 : w1.cell? ⟨w.heap.size + 1, 2, none⟩ = some (.string ⟨#[]⟩) := n0.cell rfl
  have f0 := n0.frozen 0; have f1 := n0.frozen 1; have f2 := n0.frozen 2
  have HN0 := Lib.hid n0; have HX := Lib.hid (hw.trans hx1)
  clear n0 b0 hw hr hx1
  go_wp2_with fail
  have h1 := ((HN0.out.set 0 (.int .i64 1)).set 1 (.int .i64 (N : Int))).set 2 (.string ⟨#[]⟩)
  refine bodyPost_ret (results_cell_row rfl _ _ (w.heap.size + 1) _ _ (0, 0) _ rfl h1 Tryz.underlying60 rfl (by kernel_rfl)) rfl ?_
  exact ⟨rfl, ext_set (ext_set (ext_set HX.out ⟨w.heap.size + 1, 0, none⟩ _ (Nat.le_succ _)) ⟨w.heap.size + 1, 1, none⟩ _ (Nat.le_succ _)) ⟨w.heap.size + 1, 2, none⟩ _ (Nat.le_succ _)⟩
theorem meetO_c (g t : Sp) (W : World) :
    Calls Tryz.prog 97 #[.agg #[.int .i64 g.1, .int .i64 g.2.1, .string g.2.2], .agg #[.int .i64 t.1, .int .i64 t.2.1, .string t.2.2]] W fun e W' =>
      e = .returned (if t.1 = 3 then .agg #[.int .i64 1, .int .i64 0, .string ⟨#[]⟩] else .agg #[.int .i64 g.1, .int .i64 g.2.1, .string g.2.2]) ∧ Ext W W' := by
  obtain ⟨g1, g2, g3⟩ := g
  obtain ⟨t1, t2, t3⟩ := t
  have hx := ((Ext.refl W).alloc (.cells #[.int .i64 g1, .int .i64 g2, .string g3] 60)).alloc (.cells #[.int .i64 t1, .int .i64 t2, .string t3] 60)
  simp only
  by_cases h1 : t1 = 3
  · subst h1
    rw [if_pos rfl]
    have hz := hx.alloc (.cells #[.int .i64 1, .int .i64 0, .string ⟨#[]⟩] 60)
    have hb := BxT.new ((W.alloc (.cells #[.int .i64 g1, .int .i64 g2, .string g3] 60)).alloc (.cells #[.int .i64 3, .int .i64 t2, .string t3] 60)) 60 #[.int .i64 1, .int .i64 0, .string ⟨#[]⟩]
    rw [size_alloc, size_alloc] at hb
    go_enter Tryz.func97, Tryz.ntmps97
    go_wp2_with fail
    refine bodyPost_ret (results_cell_row rfl _ _ (W.heap.size + 1 + 1) _ _ (0, 0) _ rfl hb Tryz.underlying60 rfl (by kernel_rfl)) rfl ?_
    exact ⟨rfl, hz⟩
  · rw [if_neg h1]
    have hb2 : (t1 == 3) = false := by rw [beq_eq_false_iff_ne]; exact h1
    have hz := hx.alloc (.cells #[.int .i64 g1, .int .i64 g2, .string g3] 60)
    have hb := BxT.new ((W.alloc (.cells #[.int .i64 g1, .int .i64 g2, .string g3] 60)).alloc (.cells #[.int .i64 t1, .int .i64 t2, .string t3] 60)) 60 #[.int .i64 g1, .int .i64 g2, .string g3]
    rw [size_alloc, size_alloc] at hb
    clear h1
    go_enter Tryz.func97, Tryz.ntmps97
    go_wp2_with fail
    refine bodyPost_ret (results_cell_row rfl _ _ (W.heap.size + 1 + 1) _ _ (0, 0) _ rfl hb Tryz.underlying60 rfl (by kernel_rfl)) rfl ?_
    exact ⟨rfl, hz⟩
theorem mayO_c (A : Option Addr) (q c : Nat) (a : List Sp) (B : Option Addr) (q' c' : Nat) (b : List Sp) (w : World) [Tab w] (h : RdO w A q c a) (h' : RdO w B q' c' b) (hq : q ≤ 1000) (hq' : q' ≤ 1000)
    (hta : ∀ s ∈ a, s.2.2.size ≤ 1000000000) (htb : ∀ s ∈ b, s.2.2.size ≤ 1000000000) :
    Calls Tryz.prog 82 #[.slice A q c, .slice B q' c'] w fun e w' => e = .returned (.int .i64 (overE a b)) ∧ Ext w w' := by
  have HMA : Hid (∀ w', Ext w w' → _) := Lib.hid fun w' hx => have hTb := tab_ext hx; may4_c A q c a w' (h.2.ext hx) h.1 hq hta
  have HMB : Hid (∀ w', Ext w w' → _) := Lib.hid fun w' hx => have hTb := tab_ext hx; may4_c B q' c' b w' (h'.2.ext hx) h'.1 hq' htb
  have HIA : Hid (∀ w', Ext w w' → _) := Lib.hid fun w' hx => have hTb := tab_ext hx; in4_c A q c a w' (h.2.ext hx) h.1 hq
  have HIB : Hid (∀ w', Ext w w' → _) := Lib.hid fun w' hx => have hTb := tab_ext hx; in4_c B q' c' b w' (h'.2.ext hx) h'.1 hq'
  by_cases hma : mayL a = 0
  · by_cases hmb : mayL b = 0
    · obtain ⟨alla, ai0, ai1⟩ := mayL_all hma (by have := h.1; omega)
      obtain ⟨allb, bi0, bi1⟩ := mayL_all hmb (by have := h'.1; omega)
      have hwo : wrap64 (inL a) = inL a := by unfold wrap64; omega
      have hwi : wrap64 (inL b) = inL b := by unfold wrap64; omega
      rw [hma] at HMA; rw [hmb] at HMB; rw [hwo] at HIA; rw [hwi] at HIB
      obtain ⟨E, hE⟩ : ∃ E, overE a b = E := ⟨_, rfl⟩
      rw [hE]
      have hcase : (inL a = inL b ∧ E = 0 ∧ (inL a != inL b) = false) ∨ (inL a ≠ inL b ∧ E = 5 ∧ (inL a != inL b) = true) := by
        rw [← hE]; unfold overE; rw [if_pos hma, if_pos hmb]
        by_cases hf : inL a = inL b
        · exact .inl ⟨hf, if_pos hf, by rw [hf]; simp⟩
        · exact .inr ⟨hf, if_neg hf, by rw [bne_iff_ne]; exact hf⟩
      clear h h' hta htb hma hmb alla allb hwo hwi hE ai0 ai1 bi0 bi1
      generalize inL b = IB at *
      generalize inL a = OA at *
      rcases hcase with ⟨hf, rfl, hbq⟩ | ⟨hf, rfl, hbq⟩
      · subst hf
        go_enter Tryz.func82, Tryz.ntmps82
        go_wp2_with fail
        refine (HMA.out _ (Ext.refl _)).mono ?_; rintro e w1 ⟨rfl, hx1⟩
        go_wp2_with fail
        refine (HMB.out _ hx1).mono ?_; rintro e w2 ⟨rfl, hx2⟩
        go_wp2_with fail
        refine (HIA.out _ (hx1.trans hx2)).mono ?_; rintro e w3 ⟨rfl, hx3⟩
        go_wp2_with fail
        refine (HIB.out _ ((hx1.trans hx2).trans hx3)).mono ?_; rintro e w4 ⟨rfl, hx4⟩
        go_wp2_with fail
        go_ret
        exact ⟨rfl, ((hx1.trans hx2).trans hx3).trans hx4⟩
      · have hb2 : (OA == IB) = false := by rw [beq_eq_false_iff_ne]; exact hf
        go_enter Tryz.func82, Tryz.ntmps82
        go_wp2_with fail
        refine (HMA.out _ (Ext.refl _)).mono ?_; rintro e w1 ⟨rfl, hx1⟩
        go_wp2_with fail
        refine (HMB.out _ hx1).mono ?_; rintro e w2 ⟨rfl, hx2⟩
        go_wp2_with fail
        refine (HIA.out _ (hx1.trans hx2)).mono ?_; rintro e w3 ⟨rfl, hx3⟩
        go_wp2_with fail
        refine (HIB.out _ ((hx1.trans hx2).trans hx3)).mono ?_; rintro e w4 ⟨rfl, hx4⟩
        go_wp2_with fail
        go_ret
        exact ⟨rfl, ((hx1.trans hx2).trans hx3).trans hx4⟩
    · have hE : overE a b = mayL b := by unfold overE; rw [if_pos hma, if_neg hmb]
      rw [hma] at HMA
      have hb : (mayL b != 0) = true := by rw [bne_iff_ne]; exact hmb
      have hb2 : (mayL b == 0) = false := by rw [beq_eq_false_iff_ne]; exact hmb
      rw [hE]
      clear h h' hta htb hma hmb hE
      generalize mayL b = MB at *
      go_enter Tryz.func82, Tryz.ntmps82
      go_wp2_with fail
      refine (HMA.out _ (Ext.refl _)).mono ?_; rintro e w1 ⟨rfl, hx1⟩
      go_wp2_with fail
      refine (HMB.out _ hx1).mono ?_; rintro e w2 ⟨rfl, hx2⟩
      go_wp2_with fail
      go_ret
      exact ⟨rfl, hx1.trans hx2⟩
  · have hE : overE a b = mayL a := by unfold overE; rw [if_neg hma]
    have hb : (mayL a != 0) = true := by rw [bne_iff_ne]; exact hma
    have hb2 : (mayL a == 0) = false := by rw [beq_eq_false_iff_ne]; exact hma
    rw [hE]
    clear h h' hta htb hma hE
    generalize mayL a = MA at *
    go_enter Tryz.func82, Tryz.ntmps82
    go_wp2_with fail
    refine (HMA.out _ (Ext.refl _)).mono ?_; rintro e w1 ⟨rfl, hx1⟩
    go_wp2_with fail
    go_ret
    exact ⟨rfl, hx1⟩
theorem restOfO_c (A : Option Addr) (q c : Nat) (l : List Sp) (w : World) (h : RdO w A q c l) (hq : q ≤ 1000) (ho : Ok l) :
    Calls Tryz.prog 84 #[.slice A q c] w fun e w' => Ext w w' ∧ ∃ x A' q' c', e = .returned (.pointer (some ⟨x, 0, none⟩)) ∧ w.heap.size ≤ x ∧
      RBoxO w' x (rstV (hdS (normL l)) (.slice A' q' c')) ∧ RdO w' A' q' c' (normL l).tail ∧ Awy x q' A' ∧ ∀ z, z < w.heap.size → Awy z q' A' := by
  have HN : Hid (∀ w', Ext w w' → _) := Lib.hid fun w' hx => of5_c A q c l w' (h.2.ext hx) h.1 (by omega) ho
  clear h ho
  go_enter Tryz.func84, Tryz.ntmps84
  go_wp2_with fail
  refine (HN.out _ (Ext.refl _)).mono ?_; rintro e w1 ⟨v, rfl, hx1, o1⟩
  obtain ⟨a1, n1, c1, rfl, r1⟩ := rdO_own o1
  have hE := (Ext.refl w1).alloc (.cells #[.int .i64 0, .int .i64 0, .string ⟨#[]⟩, .slice a1 n1 c1] 124)
  have hR := BxT.new w1 124 (rstV (0, 0, ⟨#[]⟩) (.slice a1 n1 c1))
  have hA : Awy w1.heap.size n1 a1 := rdO_new r1
  have hB : ∀ z, z < w.heap.size → Awy z n1 a1 := fun z hz => own_awy o1 hz
  clear o1
  go_wp2_with fail
  refine (stepO_c w1.heap.size (0, 0, ⟨#[]⟩) a1 n1 c1 (normL l) _ hR (r1.ext hE) hA).1.mono ?_
  rintro e w2 ⟨⟨v, rfl⟩, hk, A', q', c', g1, g2, g3⟩
  have hx2 : Ext w w2 := Below.trans (hx1.trans hE) (hk.below (hx1.trans hE).size hx1.size hx1.size)
  have hr2 := rdO_ks (g2 _ (r1.ext hE)) (g3 _ hA) (g3 _ hA) hk
  go_wp2_with fail
  go_ret
  exact ⟨hx2, w1.heap.size, A', q', c', rfl, hx1.size, g1, hr2, g3 _ hA, fun z hz => g3 z (hB z hz)⟩
theorem leftNO_eq {x n c : Nat} {w : World} {l : List Sp} {A : Option Addr} (h : RBoxO w x (rstV (hdS l) (.slice A n c))) (hn : l.tail.length = n) (hk : ∀ s ∈ l, OkW s) : leftN x w = l.length := by
  have c0 : w.cell? ⟨x, 0, none⟩ = some (.int .i64 (hdS l).1) := h.cell rfl
  have c3 : w.cell? ⟨x, 3, none⟩ = some (.slice A n c) := h.cell rfl
  unfold leftN
  rw [c0, c3]
  cases l with
  | nil => simp only [List.tail_nil, List.length_nil] at hn; subst hn; rfl
  | cons s r =>
    have hs : s.1 ≠ 0 := by
      rcases hk s (List.mem_cons_self ..) with ⟨k1, _⟩ | ⟨k1, _⟩ <;> omega
    have e : (hdS (s :: r)).1 = s.1 := rfl
    simp only [List.tail_cons] at hn
    rw [e]
    simp only [if_neg hs, List.length_cons]
    omega
theorem behindO_c (x y : Nat) (xs0 ys0 : List Sp) (A : Option Addr) (q c : Nat) (B : Option Addr) (q' c' : Nat) (w w0 : World) [Tab w0] (hx0 : Ext w0 w) (hw0x : w0.heap.size ≤ x) (hw0y : w0.heap.size ≤ y)
    (hbx : RBoxO w x (rstV (hdS xs0) (.slice A q c))) (hby : RBoxO w y (rstV (hdS ys0) (.slice B q' c'))) (hrx : RdO w A q c xs0.tail) (hry : RdO w B q' c' ys0.tail)
    (hxx : Awy x q A) (hxy : Awy y q A) (hyx : Awy x q' B) (hyy : Awy y q' B) (hne : x ≠ y) (hrow : RowO 1000000000 900000000 2000 xs0 ys0 []) (hsid : tin (tok xs0) = tin (tok ys0)) :
    Calls Tryz.prog 83 #[.pointer (some ⟨x, 0, none⟩), .pointer (some ⟨y, 0, none⟩)] w fun e w' => KS w.heap.size x y w w' ∧ ∃ v os, e = .returned v ∧
      Own w' w.heap.size 60 3 v os.length (spCells os) ∧ RowO 1000000000 900000000 2000 [] [] os ∧ tok os = overT (tok xs0) (tok ys0) := by
  have HX0 := Lib.hid hx0; have HW0 := Lib.hid (And.intro hw0x hw0y)
  clear hx0 hw0x hw0y
  obtain ⟨i, hi, hz0, hz1, hz2⟩ := info_parts info_sp5
  obtain ⟨TT, hTT⟩ : ∃ TT, overT (tok xs0) (tok ys0) = TT := ⟨_, rfl⟩
  rw [hTT]
  have hlx := hbx.lt; have hly := hby.lt
  have HBX := Lib.hid hbx; have HBY := Lib.hid hby; have HRX := Lib.hid hrx; have HRY := Lib.hid hry
  have HWX := Lib.hid (And.intro hxx hxy); have HWY := Lib.hid (And.intro hyx hyy)
  have HROW := Lib.hid hrow; have HSID := Lib.hid hsid
  have HTT : Hid (tok [] ++ overT (tok xs0) (tok ys0) = TT) := Lib.hid (by rw [tok_nil, List.nil_append]; exact hTT)
  clear hbx hby hrx hry hxx hxy hyx hyy hrow hsid hTT
  go_enter Tryz.func83, Tryz.ntmps83
  go_wp2_with fail
  go_loopw [5] (fun v wr => ∃ (xs ys os : List Sp) (ax ay : Option Addr) (nx cx ny cy : Nat),
      Hid (RBoxO wr x (rstV (hdS xs) (.slice ax nx cx)) ∧ RBoxO wr y (rstV (hdS ys) (.slice ay ny cy)) ∧ RdO w ax nx cx xs.tail ∧ RdO w ay ny cy ys.tail ∧ (Awy x nx ax ∧ Awy y nx ax) ∧ (Awy x ny ay ∧ Awy y ny ay)) ∧
      Hid (Own wr w.heap.size 60 3 v os.length (spCells os)) ∧ Hid (RowO 1000000000 900000000 2000 xs ys os) ∧ Hid (tok os ++ overT (tok xs) (tok ys) = TT) ∧ Hid (tin (tok xs) = tin (tok ys)) ∧ Hid (KS w.heap.size x y w wr))
    (fun _ wr => leftN x wr + leftN y wr)
  case atStart => exact ⟨xs0, ys0, [], A, B, q, c, q', c', Lib.hid ⟨HBX.out, HBY.out, HRX.out, HRY.out, HWX.out, HWY.out⟩, Lib.hid (Own.nil w _ _ _ (Nat.le_refl _)), HROW, HTT, HSID, Lib.hid (KS.refl _ _ _ _)⟩
  case round =>
    obtain ⟨xs, ys, os, ax, ay, nx, cx, ny, cy, HB, HO, HRW, HT, HS, HK⟩ := hrel
    clear HBX HBY HRX HRY HWX HWY HROW HSID HTT
    obtain ⟨bx, by', rx, ry, wx, wy⟩ := HB.out
    have hkx : ∀ s ∈ xs, OkW s := fun s hs => (HRW.out.x s hs).1
    have hky : ∀ s ∈ ys, OkW s := fun s hs => (HRW.out.y s hs).1
    have hmx := leftNO_eq bx rx.1 hkx
    have hmy := leftNO_eq by' ry.1 hky
    rw [hmx, hmy]
    rcases overC xs ys HRW.out.x HRW.out.y HS.out with ⟨rfl, rfl⟩ | ⟨b1, b2, b3, ys, rfl, hk⟩ | ⟨a1, a2, a3, xs, rfl, hk, hnp⟩ | ⟨a1, a2, a3, xs, b1, b2, b3, ys, rfl, rfl, hka, hkb⟩
    · have x0 : wr.cell? ⟨x, 0, none⟩ = some (.int .i64 0) := bx.cell rfl
      have y0 : wr.cell? ⟨y, 0, none⟩ = some (.int .i64 0) := by'.cell rfl
      clear hkx hky hmx hmy
      go_wp2_with fail
      (try rw [Exit.noGoto_ret])
      go_ret
      refine ⟨HK.out, _, rfl, os, HO.out, HRW.out, ?_⟩
      have h := HT.out
      rw [tok_nil, overT, List.append_nil] at h
      exact h
    · subst hk
      have huo := (HRW.out.y _ (List.mem_cons_self ..)).1
      have HW := Lib.hid (wholeO_c y (2, b2, b3) ay ny cy ys wr by' (rdO_ks ry wy.1 wy.2 HK.out) wy.2)
      have hpl := put_len _ huo rfl
      simp only at hpl
      have hbt := HRW.out.n
      obtain ⟨n1, n2, n3⟩ := HRW.out.pops
      have hyn0 := sumN_pos ys fun s hs => (HRW.out.y s (List.mem_cons_of_mem _ hs)).1.nonneg
      have hy0 := huo.nonneg
      rw [sumN_cons, sumT_cons] at hbt
      simp only at hbt hy0
      have hpl1 := hpl.1
      have hpl2 : outL [(2, b2, b3)] = ((tokS (2, b2, b3)).length : Int) := by have h := outL_cons (2, b2, b3) []; have e0 : outL ([] : List Sp) = 0 := rfl; rw [e0] at h; simp only at h; rw [h, hpl.2]; omega
      have hHTT0 := HT.out
      rw [← over_putY xs ys os _ huo rfl] at hHTT0
      have hHROW0 := HRW.out.putY _ hpl1
      obtain ⟨N, hN⟩ : ∃ N, (tokS (2, b2, b3)).length = N := ⟨_, rfl⟩
      rw [hN] at hHTT0 hHROW0 hpl1 hpl2
      have HROW2 := Lib.hid hHROW0
      have HTT2 := Lib.hid hHTT0
      have hbs : b3.size ≤ 1000000000 := by omega
      have hNb : N ≤ 1000000000 := by omega
      have HKP := Lib.hid (fun (w' : World) (hx : Ext w0 w') => have hTb := tab_ext hx; keptO_c 2 b2 b3 N w' hbs hpl2 hNb)
      clear hHTT0 hHROW0 hpl hN hbt n1 n2 n3 hyn0 hy0 hpl1 hpl2 hbs
      have HSID2 : Hid (tin (tok xs) = tin (tok ys)) := Lib.hid (by have h1 := HS.out; rw [tok_cons, tin_append, (sides _ huo).1, if_pos rfl] at h1; omega)
      have y0 : wr.cell? ⟨y, 0, none⟩ = some (.int .i64 2) := by'.cell rfl
      have hlo : os.length ≤ 2000 := by have := HRW.out.l; omega
      have HLT := Lib.hid hmx; have HLU := Lib.hid hmy
      clear hmx hmy hkx hky
      have hkk := HK.out.size
      have BX1 := Lib.hid bx; have BY1 := Lib.hid by'; have RX1 := Lib.hid rx; have RY1 := Lib.hid ry; have WX1 := Lib.hid wx; have WY1 := Lib.hid wy
      clear bx by' rx ry wx wy
      go_wp2_with fail
      refine HW.out.mono ?_; rintro e w1 ⟨rfl, hk1, A', q'', c'', g1, g2, g3⟩
      have EW1 : Ext w0 w1 := Below.trans HX0.out ((HK.out.trans (hk1.mono hkk).right).below HX0.out.size HW0.out.1 HW0.out.2)
      have HO1 := Lib.hid (own_ks HO.out hk1 hly)
      have HEW := Lib.hid EW1
      have G1 := Lib.hid g1; have G2 := Lib.hid g2; have G3 := Lib.hid g3; have K1 := Lib.hid hk1
      clear g1 g2 g3 hk1 EW1
      go_wp2_with fail
      refine (HKP.out _ HEW.out).mono ?_; rintro e wk ⟨rfl, hxk⟩
      have ho1 := HO1.out.ext hxk
      have HXK := Lib.hid hxk
      clear hxk
      obtain ⟨v', w2, happ, hown', hbel', -, -, -⟩ := app_newg (P := Tryz.prog) 23 23 60 i _ 3 32 Tryz.underlying23 hi hz0 hz1 hz2 rfl (by omega) (by omega)
        ho1 (by omega) 1 #[.int .i64 1, .int .i64 (N : Int), .string ⟨#[]⟩] rfl (by omega) (by simp [Value.oneCell']) 60
      have HAP := Lib.hid happ
      have HO2 : Hid (Own w2 w.heap.size 60 3 v' (os ++ [(1, (N : Int), (⟨#[]⟩ : ByteArray))]).length (spCells (os ++ [(1, (N : Int), (⟨#[]⟩ : ByteArray))]))) := Lib.hid (by rw [spCells_append, List.length_append]; exact hown')
      have hk2 : Below w.heap.size w1 w2 := Below.trans (Below.mono HXK.out (Nat.le_trans HK.out.size (by have := K1.out.size; omega))) (hbel' (Below.refl _ _))
      have K2 := Lib.hid hk2
      clear ho1 happ hown' hbel' hk2
      go_wp2_with (at_builtin; refine wpList_append_run rfl rfl HAP.out rfl rfl ?_)
      go_roundw
      case rel =>
        have hkk2 : KS w.heap.size x y wr w1 := (K1.out.mono hkk).right
        exact ⟨xs, ys, os ++ [(1, (N : Int), (⟨#[]⟩ : ByteArray))], ax, A', nx, cx, q'', c'', Lib.hid ⟨BxT.at_ (BxT.ks BX1.out K1.out BX1.out.lt hne hne) K2.out hlx, BxT.at_ G1.out K2.out hly, RX1.out, G2.out _ RY1.out, WX1.out, ⟨G3.out x WY1.out.1, G3.out y WY1.out.2⟩⟩, HO2, HROW2, HTT2, HSID2, Lib.hid ((HK.out.trans hkk2).trans (KS.of_below x y K2.out))⟩
      case measure =>
        have e1 := leftNO_eq (x := x) (w := w2) (l := xs) (BxT.at_ (BxT.ks BX1.out K1.out BX1.out.lt hne hne) K2.out hlx) RX1.out.1 fun s hs => (HROW2.out.x s hs).1
        have e2 := leftNO_eq (x := y) (w := w2) (l := ys) (BxT.at_ G1.out K2.out hly) (G2.out _ RY1.out).1 fun s hs => (HROW2.out.y s hs).1
        have e3 := HLT.out; have e4 := HLU.out
        simp only [List.length_cons] at e3 e4
        simp only [List.length_cons]; omega
    · subst hk
      have huo := (HRW.out.x _ (List.mem_cons_self ..)).1
      have HW := Lib.hid (wholeO_c x (2, a2, a3) ax nx cx xs wr bx (rdO_ks rx wx.1 wx.2 HK.out) wx.1)
      have HROW2 := Lib.hid HRW.out.putX
      have HTT2 : Hid (tok (os ++ [(2, a2, a3)]) ++ overT (tok xs) (tok ys) = TT) := Lib.hid (by rw [over_putX xs ys os _ huo rfl (noIns_tok ys HRW.out.y hnp)]; exact HT.out)
      have HSID2 : Hid (tin (tok xs) = tin (tok ys)) := Lib.hid (by have h1 := HS.out; rw [tok_cons, tin_append, (sides _ huo).1, if_pos rfl] at h1; omega)
      obtain ⟨kb, hkb, hkb2⟩ : ∃ kb, (hdS ys).1 = kb ∧ (kb == 2) = false := by
        refine ⟨_, rfl, ?_⟩
        rw [beq_eq_false_iff_ne]
        rcases ys with _ | ⟨u, r⟩
        · show (0 : Int) ≠ 2; decide
        · exact hnp u r rfl
      have y0 : wr.cell? ⟨y, 0, none⟩ = some (.int .i64 kb) := by rw [← hkb]; exact by'.cell rfl
      have x0 : wr.cell? ⟨x, 0, none⟩ = some (.int .i64 2) := bx.cell rfl
      clear hnp hkb
      have hlo : os.length ≤ 2000 := by have := HRW.out.l; omega
      have HLT := Lib.hid hmx; have HLU := Lib.hid hmy
      clear hmx hmy hkx hky
      have hkk := HK.out.size
      have BX1 := Lib.hid bx; have BY1 := Lib.hid by'; have RX1 := Lib.hid rx; have RY1 := Lib.hid ry; have WX1 := Lib.hid wx; have WY1 := Lib.hid wy
      clear bx by' rx ry wx wy
      go_wp2_with fail
      refine HW.out.mono ?_; rintro e w1 ⟨rfl, hk1, A', q'', c'', g1, g2, g3⟩
      have ho1 := own_ks HO.out hk1 hlx
      have G1 := Lib.hid g1; have G2 := Lib.hid g2; have G3 := Lib.hid g3; have K1 := Lib.hid hk1
      clear g1 g2 g3 hk1
      obtain ⟨v', w2, happ, hown', hbel', -, -, -⟩ := app_newg (P := Tryz.prog) 23 23 60 i _ 3 32 Tryz.underlying23 hi hz0 hz1 hz2 rfl (by omega) (by omega)
        ho1 (by omega) 1 #[.int .i64 2, .int .i64 a2, .string a3] rfl (by omega) (by simp [Value.oneCell']) 60
      have HAP := Lib.hid happ
      have HO2 : Hid (Own w2 w.heap.size 60 3 v' (os ++ [(2, a2, a3)]).length (spCells (os ++ [(2, a2, a3)]))) := Lib.hid (by rw [spCells_append, List.length_append]; exact hown')
      have hk2 : Below w.heap.size w1 w2 := hbel' (Below.refl _ _)
      have K2 := Lib.hid hk2
      clear ho1 happ hown' hbel' hk2
      go_wp2_with (at_builtin; refine wpList_append_run rfl rfl HAP.out rfl rfl ?_)
      go_roundw
      case rel =>
        have hkk2 : KS w.heap.size x y wr w1 := (K1.out.mono hkk).left
        exact ⟨xs, ys, os ++ [(2, a2, a3)], A', ay, q'', c'', ny, cy, Lib.hid ⟨BxT.at_ G1.out K2.out hlx, BxT.at_ (BxT.ks BY1.out K1.out BY1.out.lt (Ne.symm hne) (Ne.symm hne)) K2.out hly, G2.out _ RX1.out, RY1.out, ⟨G3.out x WX1.out.1, G3.out y WX1.out.2⟩, WY1.out⟩, HO2, HROW2, HTT2, HSID2, Lib.hid ((HK.out.trans hkk2).trans (KS.of_below x y K2.out))⟩
      case measure =>
        have e1 := leftNO_eq (x := x) (w := w2) (l := xs) (BxT.at_ G1.out K2.out hlx) (G2.out _ RX1.out).1 fun s hs => (HROW2.out.x s hs).1
        have e2 := leftNO_eq (x := y) (w := w2) (l := ys) (BxT.at_ (BxT.ks BY1.out K1.out BY1.out.lt (Ne.symm hne) (Ne.symm hne)) K2.out hly) RY1.out.1 fun s hs => (HROW2.out.y s hs).1
        have e3 := HLT.out; have e4 := HLU.out
        simp only [List.length_cons] at e3 e4
        simp only [List.length_cons]; omega
    · have hso := (HRW.out.x _ (List.mem_cons_self ..)).1
      have huo := (HRW.out.y _ (List.mem_cons_self ..)).1
      obtain ⟨n1, n2, n3⟩ := HRW.out.pops
      have hbn := HRW.out.n
      have hbt := HRW.out.t
      have hx0 := hso.nonneg
      have hy0 := huo.nonneg
      have hxn0 := sumN_pos xs fun s hs => (HRW.out.x s (List.mem_cons_of_mem _ hs)).1.nonneg
      have hyn0 := sumN_pos ys fun s hs => (HRW.out.y s (List.mem_cons_of_mem _ hs)).1.nonneg
      rw [sumN_cons, sumN_cons, sumT_cons] at hbn
      rw [sumT_cons] at hbt
      simp only at hbn hbt hx0 hy0 hka hkb
      obtain ⟨N1, rfl⟩ := Int.eq_ofNat_of_zero_le hx0
      obtain ⟨N2, rfl⟩ := Int.eq_ofNat_of_zero_le hy0
      have hN1 : (tokS (a1, (N1 : Int), a3)).length = N1 := by rw [tokS_num _ _ _ hka, List.length_replicate, Int.toNat_natCast]
      have hN2 : (tokS (b1, (N2 : Int), b3)).length = N2 := by rw [tokS_num _ _ _ hkb, List.length_replicate, Int.toNat_natCast]
      obtain rfl : a3 = ⟨#[]⟩ := by rcases hso with ⟨k1, _⟩ | ⟨_, _, k1⟩; exact absurd k1 hka; exact k1
      obtain rfl : b3 = ⟨#[]⟩ := by rcases huo with ⟨k1, _⟩ | ⟨_, _, k1⟩; exact absurd k1 hkb; exact k1
      obtain ⟨M, hM⟩ : ∃ M, M = min N1 N2 := ⟨_, rfl⟩
      obtain ⟨mm, hmm⟩ : ∃ mm : Sp, mm = if b1 = 3 then (1, 0, ⟨#[]⟩) else cutA (a1, (N1 : Int), ⟨#[]⟩) M := ⟨_, rfl⟩
      obtain ⟨hr2, ht2, hs2, hlt2⟩ := over_stepE HRW.out HT.out HS.out hka hkb (n := M) (by rw [hN1, hN2]; exact hM) mm hmm
      have hM1 : M ≤ N1 := by omega
      have hM2 : M ≤ N2 := by omega
      have hmn : N1 = M ∨ N2 = M := by omega
      have hLx : left (a1, (N1 : Int), ⟨#[]⟩) M xs = if N1 = M then xs else (a1, (N1 : Int) - (M : Int), ⟨#[]⟩) :: xs := by unfold left; rw [hN1]; split; rfl; unfold cutB; rw [if_neg hka]
      have hLy : left (b1, (N2 : Int), ⟨#[]⟩) M ys = if N2 = M then ys else (b1, (N2 : Int) - (M : Int), ⟨#[]⟩) :: ys := by unfold left; rw [hN2]; split; rfl; unfold cutB; rw [if_neg hkb]
      have HP := Lib.hid (fun w1 h1 h2 => pieceO_c x a1 N1 M ax nx cx xs _ w1 h1 h2 wx.1 (by omega) hM1 hLx)
      have HPY := Lib.hid (fun w1 h1 h2 => pieceO_c y b1 N2 M ay ny cy ys _ w1 h1 h2 wy.2 (by omega) hM2 hLy)
      have HME := Lib.hid (fun W => meetO_c (a1, (M : Int), ⟨#[]⟩) (b1, (M : Int), ⟨#[]⟩) W)
      have hval : (if (b1, (M : Int), (⟨#[]⟩ : ByteArray)).1 = 3 then Value.agg #[.int .i64 1, .int .i64 0, .string ⟨#[]⟩] else .agg #[.int .i64 (a1, (M : Int), (⟨#[]⟩ : ByteArray)).1, .int .i64 (a1, (M : Int), (⟨#[]⟩ : ByteArray)).2.1, .string (a1, (M : Int), (⟨#[]⟩ : ByteArray)).2.2]) = .agg #[.int .i64 mm.1, .int .i64 mm.2.1, .string mm.2.2] := by
        rw [hmm]
        simp only
        split
        · rfl
        · unfold cutA; rw [if_neg hka]
      rw [hval] at HME
      simp only at HME
      have HROW2 := Lib.hid hr2; have HTT2 := Lib.hid ht2; have HSID2 := Lib.hid hs2
      have hmin : min (N1 : Int) (N2 : Int) = (M : Int) := by omega
      have hmin2 : (if (N1 : Int) ≤ (N2 : Int) then (N1 : Int) else (N2 : Int)) = (M : Int) := by split <;> omega
      obtain ⟨XL, hXL⟩ : ∃ XL, left (a1, (N1 : Int), ⟨#[]⟩) M xs = XL := ⟨_, rfl⟩
      obtain ⟨YL, hYL⟩ : ∃ YL, left (b1, (N2 : Int), ⟨#[]⟩) M ys = YL := ⟨_, rfl⟩
      rw [hXL] at HP HROW2 HTT2 HSID2 hlt2; rw [hYL] at HPY HROW2 HTT2 HSID2 hlt2
      have y0 : wr.cell? ⟨y, 0, none⟩ = some (.int .i64 b1) := by'.cell rfl
      have y1 : wr.cell? ⟨y, 1, none⟩ = some (.int .i64 (N2 : Int)) := by'.cell rfl
      have x0 : wr.cell? ⟨x, 0, none⟩ = some (.int .i64 a1) := bx.cell rfl
      have x1 : wr.cell? ⟨x, 1, none⟩ = some (.int .i64 (N1 : Int)) := bx.cell rfl
      have t2 : (b1 == 2) = false := by rw [beq_eq_false_iff_ne]; exact hkb
      have t3 : (a1 == 2) = false := by rw [beq_eq_false_iff_ne]; exact hka
      have t0 : (b1 == 0) = false := by rw [beq_eq_false_iff_ne]; rcases huo with ⟨k1, _⟩ | ⟨k1, _⟩ <;> simp only at k1 <;> omega
      have ta : (a1 == 0) = false := by rw [beq_eq_false_iff_ne]; rcases hso with ⟨k1, _⟩ | ⟨k1, _⟩ <;> simp only at k1 <;> omega
      have hlo : os.length ≤ 2000 := by have := HRW.out.l; omega
      have HLT := Lib.hid hlt2
      have hkk := HK.out.size
      have BX1 := Lib.hid bx; have BY1 := Lib.hid by'; have RX1 := Lib.hid rx; have RY1 := Lib.hid ry; have WX1 := Lib.hid wx; have WY1 := Lib.hid wy
      have hmb : M ≤ 2000000000 := by omega
      have hNb1 : N1 ≤ 2000000000 := by omega
      have hNb2 : N2 ≤ 2000000000 := by omega
      have hrr := Ext.refl wr
      clear hmx hmy hkx hky bx by' rx ry wx wy hr2 ht2 hs2 hlt2 hval hXL hYL hmm hM hso huo n1 n2 n3 hbn hbt hx0 hy0 hxn0 hyn0 hka hkb hN1 hN2 hLx hLy hmn
      go_wp2_with fail
      go_region_held3 (fun W => Ext wr W ∧ W.cell? ⟨x, 1, none⟩ = some (.int .i64 (N1 : Int)) ∧ W.cell? ⟨y, 1, none⟩ = some (.int .i64 (N2 : Int))) ((go_split_ands; refine ⟨?_, ?_, ?_⟩ <;> first | (exact Ext.drew ‹_›) | go_keep)) (fail)
      go_split_ands
      have er : Ext wr wr.drew := by assumption
      obtain ⟨w', hw'⟩ : ∃ x, wr.drew = x := ⟨_, rfl⟩
      rw [hw'] at er ⊢
      clear hw'
      have BX2 := BX1.out.ext er; have BY1' := Lib.hid (BY1.out.ext er); have KR := Lib.hid (HK.out.ext er (Nat.le_refl _)); have HOR := Lib.hid (HO.out.ext er)
      have RX2 := rdO_ks RX1.out WX1.out.1 WX1.out.2 KR.out
      have hkr := KR.out.size
      go_wp2_with fail
      refine (HP.out w' BX2 RX2).mono ?_; rintro e w1 ⟨rfl, hk1, A', q'', c'', g1, g2, g3⟩
      have K1 : Hid (KS w.heap.size x y w w1) := Lib.hid (KR.out.trans (hk1.mono hkr).left)
      have BY2 := Lib.hid (BxT.ks BY1'.out hk1 BY1'.out.lt (Ne.symm hne) (Ne.symm hne))
      have HO1 := Lib.hid (own_ks HOR.out hk1 hlx)
      have G1 := Lib.hid g1; have G2 := Lib.hid g2; have G3 := Lib.hid g3
      clear g1 g2 g3 hk1
      clear y0 y1 x0 x1
      go_wp2_with fail
      refine (HPY.out w1 BY2.out (rdO_ks RY1.out WY1.out.1 WY1.out.2 K1.out)).mono ?_; rintro e w2 ⟨rfl, hk2, B', r'', d'', j1, j2, j3⟩
      have hk11 := K1.out.size
      have KW2 : Hid (KS w.heap.size x y w w2) := Lib.hid (K1.out.trans (hk2.mono hk11).right)
      have HBX2 := Lib.hid (BxT.ks G1.out hk2 G1.out.lt hne hne)
      have HO3 := Lib.hid (own_ks HO1.out hk2 hly)
      have J1 := Lib.hid j1; have J2 := Lib.hid j2; have J3 := Lib.hid j3
      clear hk2 j1 j2 j3
      go_wp2_with fail
      refine (HME.out _).mono ?_; rintro e w3 ⟨rfl, hx3⟩
      have hx23 := hx3
      have HX23 := Lib.hid hx23
      have ho1 := HO3.out.ext hx23
      obtain ⟨m1, m2, m3⟩ := mm
      have HK3 : Hid (KS w.heap.size x y w w3) := Lib.hid (KW2.out.ext hx23 (Nat.le_refl _))
      clear hx3 hx23
      obtain ⟨v', w4, happ, hown', hbel', -, -, -⟩ := app_newg (P := Tryz.prog) 23 23 60 i _ 3 32 Tryz.underlying23 hi hz0 hz1 hz2 rfl (by omega) (by omega)
        ho1 (by omega) 1 #[.int .i64 m1, .int .i64 m2, .string m3] rfl (by omega) (by simp [Value.oneCell']) 60
      have HAP := Lib.hid happ
      have HO2 : Hid (Own w4 w.heap.size 60 3 v' (os ++ [(m1, m2, m3)]).length (spCells (os ++ [(m1, m2, m3)]))) := Lib.hid (by rw [spCells_append, List.length_append]; exact hown')
      have hk2 : Below w.heap.size w3 w4 := hbel' (Below.refl _ _)
      have K2 := Lib.hid hk2
      clear ho1 happ hown' hbel' hk2
      go_wp2_with (at_builtin; refine wpList_append_run rfl rfl HAP.out rfl rfl ?_)
      go_roundw
      case rel =>
        exact ⟨XL, YL, os ++ [(m1, m2, m3)], A', B', q'', c'', r'', d'', Lib.hid ⟨BxT.at_ (BxT.ext HBX2.out HX23.out) K2.out hlx, BxT.at_ (BxT.ext J1.out HX23.out) K2.out hly, G2.out _ RX1.out, J2.out _ RY1.out, ⟨G3.out x WX1.out.1, G3.out y WX1.out.2⟩, ⟨J3.out x WY1.out.1, J3.out y WY1.out.2⟩⟩, HO2, HROW2, HTT2, HSID2, Lib.hid (HK3.out.trans (KS.of_below x y K2.out))⟩
      case measure =>
        have e1 := leftNO_eq (x := x) (w := w4) (l := XL) (BxT.at_ (BxT.ext HBX2.out HX23.out) K2.out hlx) (G2.out _ RX1.out).1 fun s hs => (HROW2.out.x s hs).1
        have e2 := leftNO_eq (x := y) (w := w4) (l := YL) (BxT.at_ (BxT.ext J1.out HX23.out) K2.out hly) (J2.out _ RY1.out).1 fun s hs => (HROW2.out.y s hs).1
        have e3 := HLT.out
        omega
theorem overWP_c (A : Option Addr) (q c : Nat) (a : List Sp) (B : Option Addr) (q' c' : Nat) (b : List Sp) (w : World) [Tab w] (h : RdO w A q c a) (h' : RdO w B q' c' b) (hq : q ≤ 1000) (hq' : q' ≤ 1000)
    (hta : ∀ s ∈ a, s.2.2.size ≤ 1000000000) (htb : ∀ s ∈ b, s.2.2.size ≤ 1000000000) (hT : sumT a + sumT b ≤ 900000000) (hma : mayL a = 0) (hmb : mayL b = 0) (hf : inL a = inL b) :
    Calls Tryz.prog 62 #[.slice A q c, .slice B q' c'] w fun e w' => Ext w w' ∧ ∃ A n c, e = .returned (.tuple #[.slice A n c, .int .i64 0]) ∧ RdO w' A n c (overL a b) := by
  obtain ⟨alla, ai0, ai1⟩ := mayL_all hma (by have := h.1; omega)
  obtain ⟨allb, bi0, bi1⟩ := mayL_all hmb (by have := h'.1; omega)
  have oka : ∀ s ∈ a, OkW s := fun s hs => okW_of_may (alla s hs)
  have okb : ∀ s ∈ b, OkW s := fun s hs => okW_of_may (allb s hs)
  have hna : sumN a = inL a := (may_sum a alla).2
  have hnb : sumN b = inL b := (may_sum b allb).2
  have Oka : Ok a := ⟨(may_sum a alla).1, by omega, by omega⟩
  have Okb : Ok b := ⟨(may_sum b allb).1, by omega, by omega⟩
  have HM := Lib.hid (mayO_c A q c a B q' c' b w h h' hq hq' hta htb)
  have hE : overE a b = 0 := by unfold overE; rw [if_pos hma, if_pos hmb, if_pos hf]
  rw [hE] at HM
  have HRA : Hid (∀ w', Ext w w' → _) := Lib.hid fun w' hx => restOfO_c A q c a w' (h.ext hx) hq Oka
  have HRB : Hid (∀ w', Ext w w' → _) := Lib.hid fun w' hx => restOfO_c B q' c' b w' (h'.ext hx) hq' Okb
  have hnx := norm_okW a oka
  have hny := norm_okW b okb
  have hix := isN_ne _ (norm_is a Oka.pos)
  have hiy := isN_ne _ (norm_is b Okb.pos)
  have hlx := norm_len a
  have hly := norm_len b
  have hti := (tin_ok b okb).1
  have hto := (tin_ok a oka).1
  have h1 := h.1
  have h1' := h'.1
  have hrow : RowO 1000000000 900000000 2000 (normL a) (normL b) [] := by
    have Z : sumN ([] : List Sp) = 0 ∧ sumT ([] : List Sp) = 0 := ⟨rfl, rfl⟩
    refine ⟨fun s hs => ⟨hnx.1 s hs, hix s hs⟩, fun s hs => ⟨hny.1 s hs, hiy s hs⟩, fun s hs => (by cases hs), ?_, ?_, ?_⟩
    · rw [sumN_norm, sumN_norm, sumT_norm]; omega
    · rw [sumT_norm]; omega
    · simp only [List.length_nil]; omega
  have hsid : tin (tok (normL a)) = tin (tok (normL b)) := by rw [hnx.2, hny.2]; omega
  have hcl : spT (overT (tok (normL a)) (tok (normL b))) = overL a b := by rw [hnx.2, hny.2]; rfl
  have HROW := Lib.hid hrow; have HSID := Lib.hid hsid; have HCL := Lib.hid hcl
  clear h h' hta htb hT hma hmb hf alla allb oka okb hna hnb Oka Okb hnx hny hix hiy hlx hly hti hto hrow hsid hcl h1 h1' hE ai0 ai1 bi0 bi1
  generalize overL a b = CL at *
  generalize normL a = X0 at *
  generalize normL b = Y0 at *
  go_enter Tryz.func62, Tryz.ntmps62
  go_wp2_with fail
  refine HM.out.mono ?_; rintro e w1 ⟨rfl, hx1⟩
  go_wp2_with fail
  refine (HRA.out _ hx1).mono ?_; rintro e w2 ⟨hx2, x, ax, nx, cx, rfl, hxs, bx, rx, wxx, wxz⟩
  have hx12 := hx1.trans hx2
  have hlx := bx.lt
  go_wp2_with fail
  refine (HRB.out _ hx12).mono ?_; rintro e w3 ⟨hx3, y, ay, ny, cy, rfl, hys, by', ry, wyy, wyz⟩
  have hx13 := hx12.trans hx3
  have hs12 := hx1.size
  have hs2 := hx12.size
  have HBO := Lib.hid (behindO_c x y X0 Y0 ax nx cx ay ny cy w3 w hx13 (by omega) (by omega) (BxT.ext bx hx3) by' (rx.ext hx3) ry wxx (rdO_awy rx hys) (wyz x hlx) wyy (by omega) HROW.out HSID.out)
  have HX13 := Lib.hid hx13
  clear bx rx wxx wxz by' ry wyy wyz hx2 hx3 hx12 hx13 hx1
  go_wp2_with fail
  refine HBO.out.mono ?_; rintro e w4 ⟨hk4, v, os, rfl, ho, hr, ht⟩
  have hx14 : Ext w w4 := Below.trans HX13.out (hk4.below (by have := HX13.out.size; omega) (by omega) (by omega))
  have hok := okW_pos os hr.o
  have Z : sumN ([] : List Sp) = 0 ∧ sumT ([] : List Sp) = 0 := ⟨rfl, rfl⟩
  have hOk : Ok os := ⟨hok, by have := hr.n; omega, by have := hr.t; omega⟩
  have hres : normL os = CL := by rw [norm_tok os hr.o, ht]; exact HCL.out
  obtain ⟨ao, co, rfl, hoc⟩ := ho.len
  have HOF := Lib.hid (of5_c ao os.length co os w4 ho.rd rfl (by have := hr.l; simp only [List.length_nil] at this; omega) hOk)
  rw [hres] at HOF
  have HX := Lib.hid hx14
  clear hok hOk hres ho hx14 hr ht hk4 hoc
  go_wp2_with fail
  refine HOF.out.mono ?_; rintro e w7 ⟨v7, rfl, hx7, o7⟩
  obtain ⟨a7, n7, c7, rfl, r7⟩ := rdO_own o7
  go_wp2_with fail
  go_ret2
  exact ⟨HX.out.trans hx7, _, _, _, rfl, r7⟩
theorem overP_c (A : Option Addr) (q c : Nat) (a : List Sp) (B : Option Addr) (q' c' : Nat) (b : List Sp) (w : World) [Tab w] (h : RdO w A q c a) (h' : RdO w B q' c' b) (hq : q ≤ 1000) (hq' : q' ≤ 1000)
    (hta : ∀ s ∈ a, s.2.2.size ≤ 1000000000) (htb : ∀ s ∈ b, s.2.2.size ≤ 1000000000) (hT : sumT a + sumT b ≤ 900000000) :
    Calls Tryz.prog 62 #[.slice A q c, .slice B q' c'] w (OpR w (overE a b) (overL a b)) := by
  by_cases hE : overE a b = 0
  · have hall := overE_ok hE
    refine (overWP_c A q c a B q' c' b w h h' hq hq' hta htb hT hall.1 hall.2.1 hall.2.2).mono ?_
    rintro e w' ⟨hx, A', n', c'', rfl, hr⟩
    refine ⟨hx, A', n', c'', by rw [hE], ?_⟩
    rw [hE, if_pos rfl]; exact hr
  · have HM := Lib.hid (mayO_c A q c a B q' c' b w h h' hq hq' hta htb)
    have HN := Lib.hid hE
    have hb : (overE a b != 0) = true := by rw [bne_iff_ne]; exact hE
    have hb2 : (overE a b == 0) = false := by rw [beq_eq_false_iff_ne]; exact hE
    clear h h' hta htb hT hE
    generalize overE a b = EE at *
    generalize overL a b = CL at *
    go_enter Tryz.func62, Tryz.ntmps62
    go_wp2_with fail
    refine HM.out.mono ?_; rintro e w1 ⟨rfl, hx1⟩
    go_wp2_with fail
    go_ret2
    refine ⟨hx1, none, 0, 0, rfl, ?_⟩
    rw [if_neg HN.out]; exact ⟨rfl, Rd.nil _ _⟩
end Go.Proofs.YtgcaphjjigpjlaaGreatDoor
