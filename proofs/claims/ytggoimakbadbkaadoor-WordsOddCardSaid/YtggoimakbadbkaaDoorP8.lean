/- Layer 8, the program: may, Where, Least. -/
import Derived.RangeFuncNested
import Derived.RangeFuncBound
import Derived.RangeFuncCalls
import Derived.RangeFuncLeaves
import Derived.Shelf.Abstract
import Derived.Shelf.RegionOpen
import Derived.WalkKit
import Derived.OwnWalkIn
import Derived.TacticsInMore
import Derived.LoopNIn
import Derived.LoopIn
import Derived.Sort.CutIn
import Derived.Test.YtggoimakbadbkaaDoorC8
import Derived.Test.YtggoimakbadbkaaDoorP4
import Derived.Test.YtggoimakbadbkaaDoorP5
namespace Go.Proofs.YtggoimakbadbkaaDoor
open Go.RowKit Go.Shelf
set_option maxRecDepth 100000
set_option maxHeartbeats 4000000
attribute [local go_sem] Oper.semAt_some

/-- Nothing below n0 has turned, and no cells but those of block x. -/
def KeepC (n0 x : Nat) (A B : World) : Prop := Below n0 A B ∧ ∀ (k : Nat) (o : Obj), A.heap[k]? = some o → o.isCells = true → k ≠ x → B.heap[k]? = some o
theorem keepC_t {n0 x : Nat} {A B C : World} (h : KeepC n0 x A B) (k : KeepC n0 x B C) : KeepC n0 x A C := ⟨h.1.trans k.1, fun i o hi hc hx => k.2 i o (h.2 i o hi hc hx) hc hx⟩
theorem keepC_b {n0 x : Nat} {w : World} (hn : n0 ≤ w.heap.size) (W : World) (l : Nat) (o o' : Obj) (hl : w.heap.size ≤ l) (h : W.heap[l]? = some o) (hc : o.isCells = false) (hw : o.isWalk = false) : KeepC n0 x W (W.putObj l o') := by
  refine ⟨belowK_b hn W l o o' hl h hc hw, fun k ok hk hck _ => ?_⟩
  have hne : k ≠ l := fun e => by subst e; rw [h] at hk; cases hk; rw [hc] at hck; cases hck
  exact (World.putObj_heap_other hne).trans hk
theorem KeepC.of_ext {n0 x : Nat} {A B : World} (hn : n0 ≤ A.heap.size) (h : Ext A B) : KeepC n0 x A B := ⟨Below.mono h hn, fun k _ hk _ _ => (h.block k (Array.getElem?_eq_some_iff.1 hk).1).trans hk⟩
theorem KeepC.refl (n0 x : Nat) (A : World) : KeepC n0 x A A := ⟨Below.refl _ _, fun _ _ h _ _ => h⟩
theorem ext_grown {A B : World} (h : Ext A B) : A.grownBy B none := ⟨h.os, h.tape, h.output, h.size, fun k hk _ => h.block k hk⟩
/-- A block of cells. -/
def BoxV (W : World) (B : Nat) (t : TypeId) (vals : Array Value) : Prop := W.heap[B]? = some (.cells vals t (0, 0))
theorem BoxV.lt {W : World} {B : Nat} {t : TypeId} {v : Array Value} (h : BoxV W B t v) : B < W.heap.size := (Array.getElem?_eq_some_iff.1 h).1
theorem BoxV.ext {W W' : World} {B : Nat} {t : TypeId} {v : Array Value} (h : BoxV W B t v) (hx : Ext W W') : BoxV W' B t v := (hx.block B h.lt).trans h
theorem BoxV.keep {W W' : World} {B n0 x : Nat} {t : TypeId} {v : Array Value} (h : BoxV W B t v) (hx : KeepC n0 x W W') (hB : B ≠ x) : BoxV W' B t v := hx.2 B _ h rfl hB
theorem BoxV.new (W : World) (t : TypeId) (v : Array Value) : BoxV (W.alloc (.cells v t)) W.heap.size t v := World.alloc_heap_new W _
theorem BoxV.cell {W : World} {B : Nat} {t : TypeId} {v : Array Value} (h : BoxV W B t v) {i : Nat} {u : Value} (hu : v[i]? = some u) : W.cell? ⟨B, i, none⟩ = some u := by
  simp [World.cell?, show W.heap[B]? = _ from h, hu]
theorem BoxV.frozen {W : World} {B : Nat} {t : TypeId} {v : Array Value} (h : BoxV W B t v) (i : Nat) : W.frozen? ⟨B, i, none⟩ = false := by simp [World.frozen?, show W.heap[B]? = _ from h]
theorem BoxV.kept {W W' : World} {row : Option Nat} {B : Nat} {t : TypeId} {v : Array Value} (h : BoxV W B t v) (hg : W.grownBy W' row) (hne : some B ≠ row) : BoxV W' B t v := (hg.block B h.lt hne).trans h
theorem boxV_own {β : Type} (B : Nat) (t : TypeId) (f : β → Array Value) : Go.Own (fun s W => BoxV W B t (f s)) := fun s X Y row hs hg hrow =>
  hs.kept hg (fun e' => by obtain ⟨o, ho, hc⟩ := hrow B e'.symm; rw [show X.heap[B]? = _ from hs] at ho; cases ho; cases hc)
theorem boxV_set0 {W : World} {B : Nat} {t : TypeId} {a b c d : Value} (v : Value) (h : BoxV W B t #[a, b, c, d]) : BoxV (W.setCell ⟨B, 0, none⟩ v) B t #[v, b, c, d] := by
  obtain ⟨hlt, hk⟩ := Array.getElem?_eq_some_iff.1 h
  show (W.heap.modify B _)[B]? = _
  rw [Array.getElem?_eq_getElem (by rw [Array.size_modify]; exact hlt), Array.getElem_modify_self, hk]
  rfl
theorem boxV_set1 {W : World} {B : Nat} {t : TypeId} {a b c d : Value} (v : Value) (h : BoxV W B t #[a, b, c, d]) : BoxV (W.setCell ⟨B, 1, none⟩ v) B t #[a, v, c, d] := by
  obtain ⟨hlt, hk⟩ := Array.getElem?_eq_some_iff.1 h
  show (W.heap.modify B _)[B]? = _
  rw [Array.getElem?_eq_getElem (by rw [Array.size_modify]; exact hlt), Array.getElem_modify_self, hk]
  rfl
theorem boxV_set2 {W : World} {B : Nat} {t : TypeId} {a b c d : Value} (v : Value) (h : BoxV W B t #[a, b, c, d]) : BoxV (W.setCell ⟨B, 2, none⟩ v) B t #[a, b, v, d] := by
  obtain ⟨hlt, hk⟩ := Array.getElem?_eq_some_iff.1 h
  show (W.heap.modify B _)[B]? = _
  rw [Array.getElem?_eq_getElem (by rw [Array.size_modify]; exact hlt), Array.getElem_modify_self, hk]
  rfl
theorem boxV_set3 {W : World} {B : Nat} {t : TypeId} {a b c d : Value} (v : Value) (h : BoxV W B t #[a, b, c, d]) : BoxV (W.setCell ⟨B, 3, none⟩ v) B t #[a, b, c, v] := by
  obtain ⟨hlt, hk⟩ := Array.getElem?_eq_some_iff.1 h
  show (W.heap.modify B _)[B]? = _
  rw [Array.getElem?_eq_getElem (by rw [Array.size_modify]; exact hlt), Array.getElem_modify_self, hk]
  rfl
theorem boxV_set (W : World) {B : Nat} {t : TypeId} {a : Value} (v : Value) (h : BoxV W B t #[a]) : BoxV (W.setCell ⟨B, 0, none⟩ v) B t #[v] := by
  obtain ⟨hlt, hk⟩ := Array.getElem?_eq_some_iff.1 h
  show (W.heap.modify B _)[B]? = _
  rw [Array.getElem?_eq_getElem (by rw [Array.size_modify]; exact hlt), Array.getElem_modify_self, hk]
  rfl
theorem BoxV.other {W : World} {B x : Nat} {t : TypeId} {vs : Array Value} (h : BoxV W B t vs) (hne : B ≠ x) (v : Value) : BoxV (W.setCell ⟨x, 0, none⟩ v) B t vs := (Below.heap_setCell W ⟨x, 0, none⟩ v B hne).trans h
theorem others_ext {W W' : World} (h : Ext W W') : KeepsOthers W W' := ⟨h.size, fun k _ hk _ => (h.block k (Array.getElem?_eq_some_iff.1 hk).1).trans hk⟩
theorem keepC_set {n0 x : Nat} (W : World) (h : n0 ≤ x) (v : Value) : KeepC n0 x W (W.setCell ⟨x, 0, none⟩ v) :=
  ⟨(Below.refl _ _).setCell h _, fun k _ hk _ hne => (Below.heap_setCell W ⟨x, 0, none⟩ v k hne).trans hk⟩

def ptVal (l : List Sp) (j : Nat) : Value := .agg #[.bool (ptK l j), .int .i64 (ptG l j), .int .i64 (ptT l j), .int .i64 (ptV l j)]
end Go.Proofs.YtggoimakbadbkaaDoor
namespace Go.Proofs.YtggoimakbadbkaaDoor
open Go.RowKit Go.Shelf
set_option maxRecDepth 100000
set_option maxHeartbeats 4000000
attribute [local go_sem] Oper.semAt_some
end Go.Proofs.YtggoimakbadbkaaDoor
