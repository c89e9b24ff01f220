/- Boxes; a region that draws, whose operations only read, all but the last few; remainders. -/
import Derived.Test.YthlhjjgmncbplaaBd
import Derived.StillTailTactics
namespace Go.Proofs.Ythlhjjgmncbplaa
open Go.RowKit
theorem size_alloc (w : World) (o : Obj) : (w.alloc o).heap.size = w.heap.size + 1 := by simp
theorem size_drewN (w : World) (n : Nat) : (w.drewN n).heap.size = w.heap.size := rfl
theorem ext_cell {w w' : World} (hx : Ext w w') {a : Addr} {v : Value} (h : w.cell? a = some v) : w'.cell? a = some v := (hx.below.cell (World.block_lt_of_cell? w a h)).trans h
theorem box_free (w w' : World) (o : Array Value) (e : TypeId) (hx : Ext (w.alloc (.cells o e)) w') (q : Nat) : w'.frozen? ⟨w.heap.size, q, none⟩ = false := by
  rw [hx.below.frozen (p := ⟨w.heap.size, q, none⟩) (by simp)]
  unfold World.frozen?
  rw [heap_alloc_new]; simp
theorem below_drewN {B : Nat} {a w : World} (h : Below B a w) (n : Nat) : Below B a (w.drewN n) := ⟨h.os, h.tape, h.output, h.size, h.block⟩
theorem own_drewN {w : World} {B : Nat} {e : TypeId} {size : Nat} {v : Value} {n : Nat} {xs : List Value} (h : Own w B e size v n xs) (k : Nat) : Own (w.drewN k) B e size v n xs := h
/-- A region that draws, whose operations only read, all but the last few, in one order. -/
theorem region_tail {P : Program} {id : Nat} {Q : Exit → Act → World → Prop} {a : Act} {w : World} {l : List Oper} (n : Nat) (hm : P.follows .mixedOrders = true) (hB : Region.lexTailB .any l.toArray n = true)
    (h : ∀ W, W = w.drew → wpStill P l.toArray W (fun a' => wpList P l.toArray Q (l.drop n) a' W) (l.take n) a) : (Code.region id l.toArray true).wp P Q a w :=
  wp_region_still_tail n hm hB (h _ rfl)
/-- A box that was made stays as it is. -/
theorem box_at (w w' : World) (o : Array Value) (e : TypeId) (hx : Ext (w.alloc (.cells o e)) w') (q : Nat) (u : Value) (hu : o[q]? = some u) : w'.cell? ⟨w.heap.size, q, none⟩ = some u := by
  rw [hx.below.cell (p := ⟨w.heap.size, q, none⟩) (by simp), cell_of_row _ w.heap.size q _ e (0, 0) (heap_alloc_new w _)]
  exact hu
theorem tmod_le (a k : Int) (hk : 0 < k) : -k < a.tmod k ∧ a.tmod k < k := by
  rcases Int.le_total 0 a with h | h
  · rw [Int.tmod_eq_emod_of_nonneg h]
    have := Int.emod_nonneg a (by omega : k ≠ 0); have := Int.emod_lt_of_pos a hk; omega
  · have e : a.tmod k = -((-a).tmod k) := by rw [Int.neg_tmod, Int.neg_neg]
    rw [e, Int.tmod_eq_emod_of_nonneg (by omega)]
    have := Int.emod_nonneg (-a) (by omega : k ≠ 0); have := Int.emod_lt_of_pos (-a) hk; omega
theorem tmod_mod (a k : Int) (hk : 0 < k) : (a.tmod k + k).tmod k = a % k := by
  have h := tmod_le a k hk
  rw [Int.tmod_eq_emod_of_nonneg (by omega), Int.add_emod_right]
  have e : a = k * a.tdiv k + a.tmod k := (Int.mul_tdiv_add_tmod a k).symm
  conv => rhs; rw [e]
  rw [Int.add_emod, Int.mul_emod_right, Int.zero_add, Int.emod_emod]
end Go.Proofs.Ythlhjjgmncbplaa
