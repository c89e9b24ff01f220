/- Layer 14, WordsOdd. -/
import Derived.Test.YtggoimakbadbkaaDoorL14a
namespace Go.Proofs.YtggoimakbadbkaaDoor
open Go.RowKit
set_option maxRecDepth 100000
set_option maxHeartbeats 4000000
theorem odd14_y (m : Nat) (h : m < 31) : takeW [2, 5, u8 (4 * m + 1)] = (8, [], 0) := (show ∀ m : Fin 31, takeW [2, 5, u8 (4 * m.val + 1)] = (8, [], 0) by decide +kernel) ⟨m, h⟩
theorem odd14_z (m : Nat) (h : m < 31) : takeW [1, u8 (4 * m)] = (8, [], 0) := (show ∀ m : Fin 31, takeW [1, u8 (4 * m.val)] = (8, [], 0) by decide +kernel) ⟨m, h⟩
theorem odd14_k : ∀ k : Nat, k < 101 → 1 ≤ k → wordE [(1, (k : Int), ⟨#[]⟩), (1, (k : Int), ⟨#[]⟩)] = 8 ∧ wordE [(1, (k : Int), ⟨#[]⟩), (3, 0, ⟨#[]⟩)] = 8 ∧ wordE [(2, 0, ⟨#[]⟩), (1, (k : Int), ⟨#[]⟩)] = 8 := by decide +kernel
/-- The row of bytes, and the operation, that are wrong. -/
def oddB (k : Nat) : Nat → List UInt8
  | 0 => [1, 0]
  | 1 => [1, 1]
  | 2 => [1, 4]
  | 3 => [2, 5, u8 (4 * (k % 31) + 1)]
  | 4 => [1, 6, 255]
  | _ => [1, u8 (4 * (k % 31))]
theorem oddB_take (k r : Nat) : takeW (oddB k r) = (8, [], 0) := by
  have h := Nat.mod_lt k (show 31 > 0 by omega)
  match r with
  | 0 => show takeW [1, 0] = _; decide +kernel
  | 1 => show takeW [1, 1] = _; decide +kernel
  | 2 => show takeW [1, 4] = _; decide +kernel
  | 3 => exact odd14_y _ h
  | 4 => show takeW [1, 6, 255] = _; decide +kernel
  | _ + 5 => exact odd14_z _ h
def oddR (k : Nat) : Nat → List Sp
  | 0 => [(1, (k : Int), ⟨#[]⟩), (1, (k : Int), ⟨#[]⟩)]
  | 1 => [(1, (k : Int), ⟨#[]⟩), (3, 0, ⟨#[]⟩)]
  | _ => [(2, 0, ⟨#[]⟩), (1, (k : Int), ⟨#[]⟩)]
theorem oddR_put (k r : Nat) (h : k < 101) (h1 : 1 ≤ k) : wordE (oddR k r) = 8 := by
  obtain ⟨a, b, c⟩ := odd14_k k h h1
  match r with
  | 0 => exact a
  | 1 => exact b
  | _ + 2 => exact c
/-- The worlds of WordsOdd, one row behind the other. -/
def oW0 (w : World) (_ _ : Nat) : World := w
def oW1 (w : World) (k m : Nat) : World := (oW0 w k m).alloc (.cells #[.int .u8 1, .int .u8 0] 5)
def oW2 (w : World) (k m : Nat) : World := (oW1 w k m).alloc (.cells #[.int .u8 1, .int .u8 1] 5)
def oW3 (w : World) (k m : Nat) : World := (oW2 w k m).alloc (.cells #[.int .u8 1, .int .u8 4] 5)
def oW4 (w : World) (k m : Nat) : World := (oW3 w k m).alloc (.cells #[.int .u8 2, .int .u8 5, .int .u8 ((m : Int) * 4 + 1)] 5)
def oW5 (w : World) (k m : Nat) : World := (oW4 w k m).alloc (.cells #[.int .u8 1, .int .u8 6, .int .u8 255] 5)
def oW6 (w : World) (k m : Nat) : World := (oW5 w k m).alloc (.cells #[.int .u8 1, .int .u8 ((m : Int) * 4)] 5)
def oW7 (w : World) (k m : Nat) : World := (oW6 w k m).alloc (.cells #[.slice (some ⟨w.heap.size, 0, none⟩) 2 2, .slice (some ⟨w.heap.size + 1, 0, none⟩) 2 2, .slice (some ⟨w.heap.size + 1 + 1, 0, none⟩) 2 2, .slice (some ⟨w.heap.size + 1 + 1 + 1, 0, none⟩) 3 3, .slice (some ⟨w.heap.size + 1 + 1 + 1 + 1, 0, none⟩) 3 3, .slice (some ⟨w.heap.size + 1 + 1 + 1 + 1 + 1, 0, none⟩) 2 2] 38)
def oW8 (w : World) (k m : Nat) : World := (oW7 w k m).alloc (.cells #[.int .i64 1, .int .i64 (k : Int), .string ⟨#[]⟩] 40)
def oW9 (w : World) (k m : Nat) : World := (oW8 w k m).alloc (.cells #[.int .i64 1, .int .i64 (k : Int), .string ⟨#[]⟩, .int .i64 1, .int .i64 (k : Int), .string ⟨#[]⟩] 40)
def oW10 (w : World) (k m : Nat) : World := (oW9 w k m).alloc (.cells #[.int .i64 1, .int .i64 (k : Int), .string ⟨#[]⟩, .int .i64 3, .int .i64 0, .string ⟨#[]⟩] 40)
def oW11 (w : World) (k m : Nat) : World := (oW10 w k m).alloc (.cells #[.int .i64 2, .int .i64 0, .string ⟨#[]⟩, .int .i64 1, .int .i64 (k : Int), .string ⟨#[]⟩] 40)
def oW12 (w : World) (k m : Nat) : World := (oW11 w k m).alloc (.cells #[.slice (some ⟨w.heap.size + 1 + 1 + 1 + 1 + 1 + 1 + 1 + 1, 0, none⟩) 2 2, .slice (some ⟨w.heap.size + 1 + 1 + 1 + 1 + 1 + 1 + 1 + 1 + 1, 0, none⟩) 2 2, .slice (some ⟨w.heap.size + 1 + 1 + 1 + 1 + 1 + 1 + 1 + 1 + 1 + 1, 0, none⟩) 2 2] 41)
theorem oWs0 (w : World) (k m : Nat) : (oW0 w k m).heap.size = w.heap.size := rfl
theorem oWs1 (w : World) (k m : Nat) : (oW1 w k m).heap.size = w.heap.size + 1 := by unfold oW1; rw [size_alloc, oWs0]
theorem oWs2 (w : World) (k m : Nat) : (oW2 w k m).heap.size = w.heap.size + 1 + 1 := by unfold oW2; rw [size_alloc, oWs1]
theorem oWs3 (w : World) (k m : Nat) : (oW3 w k m).heap.size = w.heap.size + 1 + 1 + 1 := by unfold oW3; rw [size_alloc, oWs2]
theorem oWs4 (w : World) (k m : Nat) : (oW4 w k m).heap.size = w.heap.size + 1 + 1 + 1 + 1 := by unfold oW4; rw [size_alloc, oWs3]
theorem oWs5 (w : World) (k m : Nat) : (oW5 w k m).heap.size = w.heap.size + 1 + 1 + 1 + 1 + 1 := by unfold oW5; rw [size_alloc, oWs4]
theorem oWs6 (w : World) (k m : Nat) : (oW6 w k m).heap.size = w.heap.size + 1 + 1 + 1 + 1 + 1 + 1 := by unfold oW6; rw [size_alloc, oWs5]
theorem oWs7 (w : World) (k m : Nat) : (oW7 w k m).heap.size = w.heap.size + 1 + 1 + 1 + 1 + 1 + 1 + 1 := by unfold oW7; rw [size_alloc, oWs6]
theorem oWs8 (w : World) (k m : Nat) : (oW8 w k m).heap.size = w.heap.size + 1 + 1 + 1 + 1 + 1 + 1 + 1 + 1 := by unfold oW8; rw [size_alloc, oWs7]
theorem oWs9 (w : World) (k m : Nat) : (oW9 w k m).heap.size = w.heap.size + 1 + 1 + 1 + 1 + 1 + 1 + 1 + 1 + 1 := by unfold oW9; rw [size_alloc, oWs8]
theorem oWs10 (w : World) (k m : Nat) : (oW10 w k m).heap.size = w.heap.size + 1 + 1 + 1 + 1 + 1 + 1 + 1 + 1 + 1 + 1 := by unfold oW10; rw [size_alloc, oWs9]
theorem oWs11 (w : World) (k m : Nat) : (oW11 w k m).heap.size = w.heap.size + 1 + 1 + 1 + 1 + 1 + 1 + 1 + 1 + 1 + 1 + 1 := by unfold oW11; rw [size_alloc, oWs10]
theorem oWx12 (w : World) (k m : Nat) : Ext (oW12 w k m) (oW12 w k m) := Ext.refl _
theorem oWx11 (w : World) (k m : Nat) : Ext (oW11 w k m) (oW12 w k m) := ((Ext.refl (oW11 w k m)).alloc (.cells #[.slice (some ⟨w.heap.size + 1 + 1 + 1 + 1 + 1 + 1 + 1 + 1, 0, none⟩) 2 2, .slice (some ⟨w.heap.size + 1 + 1 + 1 + 1 + 1 + 1 + 1 + 1 + 1, 0, none⟩) 2 2, .slice (some ⟨w.heap.size + 1 + 1 + 1 + 1 + 1 + 1 + 1 + 1 + 1 + 1, 0, none⟩) 2 2] 41)).trans (oWx12 w k m)
theorem oWx10 (w : World) (k m : Nat) : Ext (oW10 w k m) (oW12 w k m) := ((Ext.refl (oW10 w k m)).alloc (.cells #[.int .i64 2, .int .i64 0, .string ⟨#[]⟩, .int .i64 1, .int .i64 (k : Int), .string ⟨#[]⟩] 40)).trans (oWx11 w k m)
theorem oWx9 (w : World) (k m : Nat) : Ext (oW9 w k m) (oW12 w k m) := ((Ext.refl (oW9 w k m)).alloc (.cells #[.int .i64 1, .int .i64 (k : Int), .string ⟨#[]⟩, .int .i64 3, .int .i64 0, .string ⟨#[]⟩] 40)).trans (oWx10 w k m)
theorem oWx8 (w : World) (k m : Nat) : Ext (oW8 w k m) (oW12 w k m) := ((Ext.refl (oW8 w k m)).alloc (.cells #[.int .i64 1, .int .i64 (k : Int), .string ⟨#[]⟩, .int .i64 1, .int .i64 (k : Int), .string ⟨#[]⟩] 40)).trans (oWx9 w k m)
theorem oWx7 (w : World) (k m : Nat) : Ext (oW7 w k m) (oW12 w k m) := ((Ext.refl (oW7 w k m)).alloc (.cells #[.int .i64 1, .int .i64 (k : Int), .string ⟨#[]⟩] 40)).trans (oWx8 w k m)
theorem oWx6 (w : World) (k m : Nat) : Ext (oW6 w k m) (oW12 w k m) := ((Ext.refl (oW6 w k m)).alloc (.cells #[.slice (some ⟨w.heap.size, 0, none⟩) 2 2, .slice (some ⟨w.heap.size + 1, 0, none⟩) 2 2, .slice (some ⟨w.heap.size + 1 + 1, 0, none⟩) 2 2, .slice (some ⟨w.heap.size + 1 + 1 + 1, 0, none⟩) 3 3, .slice (some ⟨w.heap.size + 1 + 1 + 1 + 1, 0, none⟩) 3 3, .slice (some ⟨w.heap.size + 1 + 1 + 1 + 1 + 1, 0, none⟩) 2 2] 38)).trans (oWx7 w k m)
theorem oWx5 (w : World) (k m : Nat) : Ext (oW5 w k m) (oW12 w k m) := ((Ext.refl (oW5 w k m)).alloc (.cells #[.int .u8 1, .int .u8 ((m : Int) * 4)] 5)).trans (oWx6 w k m)
theorem oWx4 (w : World) (k m : Nat) : Ext (oW4 w k m) (oW12 w k m) := ((Ext.refl (oW4 w k m)).alloc (.cells #[.int .u8 1, .int .u8 6, .int .u8 255] 5)).trans (oWx5 w k m)
theorem oWx3 (w : World) (k m : Nat) : Ext (oW3 w k m) (oW12 w k m) := ((Ext.refl (oW3 w k m)).alloc (.cells #[.int .u8 2, .int .u8 5, .int .u8 ((m : Int) * 4 + 1)] 5)).trans (oWx4 w k m)
theorem oWx2 (w : World) (k m : Nat) : Ext (oW2 w k m) (oW12 w k m) := ((Ext.refl (oW2 w k m)).alloc (.cells #[.int .u8 1, .int .u8 4] 5)).trans (oWx3 w k m)
theorem oWx1 (w : World) (k m : Nat) : Ext (oW1 w k m) (oW12 w k m) := ((Ext.refl (oW1 w k m)).alloc (.cells #[.int .u8 1, .int .u8 1] 5)).trans (oWx2 w k m)
theorem oWx0 (w : World) (k m : Nat) : Ext w (oW12 w k m) := ((Ext.refl w).alloc (.cells #[.int .u8 1, .int .u8 0] 5)).trans (oWx1 w k m)
theorem oRd0 (w : World) (k m : Nat) : Rd (oW12 w k m) 1 (.slice (some ⟨w.heap.size, 0, none⟩) 2 2) 2 (Lib.byteCells [1, 0]) := by
  have h := rdB_made (oW0 w k m) [1, 0] #[.int .u8 1, .int .u8 0] 5 (n := 2) (rfl) rfl (by omega)
  rw [oWs0] at h
  exact h.ext (oWx1 w k m)
theorem oRd1 (w : World) (k m : Nat) : Rd (oW12 w k m) 1 (.slice (some ⟨w.heap.size + 1, 0, none⟩) 2 2) 2 (Lib.byteCells [1, 1]) := by
  have h := rdB_made (oW1 w k m) [1, 1] #[.int .u8 1, .int .u8 1] 5 (n := 2) (rfl) rfl (by omega)
  rw [oWs1] at h
  exact h.ext (oWx2 w k m)
theorem oRd2 (w : World) (k m : Nat) : Rd (oW12 w k m) 1 (.slice (some ⟨w.heap.size + 1 + 1, 0, none⟩) 2 2) 2 (Lib.byteCells [1, 4]) := by
  have h := rdB_made (oW2 w k m) [1, 4] #[.int .u8 1, .int .u8 4] 5 (n := 2) (rfl) rfl (by omega)
  rw [oWs2] at h
  exact h.ext (oWx3 w k m)
theorem oRd3 (w : World) (k m : Nat) (hm : m < 31) : Rd (oW12 w k m) 1 (.slice (some ⟨w.heap.size + 1 + 1 + 1, 0, none⟩) 3 3) 3 (Lib.byteCells [2, 5, u8 (4 * m + 1)]) := by
  have h := rdB_made (oW3 w k m) [2, 5, u8 (4 * m + 1)] #[.int .u8 2, .int .u8 5, .int .u8 ((m : Int) * 4 + 1)] 5 (n := 3) (by simp [Lib.byteCells, u8]; omega) rfl (by omega)
  rw [oWs3] at h
  exact h.ext (oWx4 w k m)
theorem oRd4 (w : World) (k m : Nat) : Rd (oW12 w k m) 1 (.slice (some ⟨w.heap.size + 1 + 1 + 1 + 1, 0, none⟩) 3 3) 3 (Lib.byteCells [1, 6, 255]) := by
  have h := rdB_made (oW4 w k m) [1, 6, 255] #[.int .u8 1, .int .u8 6, .int .u8 255] 5 (n := 3) (rfl) rfl (by omega)
  rw [oWs4] at h
  exact h.ext (oWx5 w k m)
theorem oRd5 (w : World) (k m : Nat) (hm : m < 31) : Rd (oW12 w k m) 1 (.slice (some ⟨w.heap.size + 1 + 1 + 1 + 1 + 1, 0, none⟩) 2 2) 2 (Lib.byteCells [1, u8 (4 * m)]) := by
  have h := rdB_made (oW5 w k m) [1, u8 (4 * m)] #[.int .u8 1, .int .u8 ((m : Int) * 4)] 5 (n := 2) (by simp [Lib.byteCells, u8]; omega) rfl (by omega)
  rw [oWs5] at h
  exact h.ext (oWx6 w k m)
theorem oRo0 (w : World) (k m : Nat) : RdO (oW12 w k m) (some ⟨w.heap.size + 1 + 1 + 1 + 1 + 1 + 1 + 1 + 1, 0, none⟩) 2 2 (oddR k 0) := by
  have h := rdO_made14 (oW8 w k m) #[.int .i64 1, .int .i64 (k : Int), .string ⟨#[]⟩, .int .i64 1, .int .i64 (k : Int), .string ⟨#[]⟩] 40 (n := 2) (l := oddR k 0) rfl rfl rfl (by decide)
  rw [oWs8] at h
  exact h.ext (oWx9 w k m)
theorem oCe0 (w : World) (k m : Nat) : (oW12 w k m).cell? ⟨w.heap.size + 1 + 1 + 1 + 1 + 1 + 1 + 1 + 1 + 1 + 1 + 1, 0, none⟩ = some (.slice (some ⟨w.heap.size + 1 + 1 + 1 + 1 + 1 + 1 + 1 + 1, 0, none⟩) 2 2) := by
  have h := (BoxG.made (oW11 w k m) #[.slice (some ⟨w.heap.size + 1 + 1 + 1 + 1 + 1 + 1 + 1 + 1, 0, none⟩) 2 2, .slice (some ⟨w.heap.size + 1 + 1 + 1 + 1 + 1 + 1 + 1 + 1 + 1, 0, none⟩) 2 2, .slice (some ⟨w.heap.size + 1 + 1 + 1 + 1 + 1 + 1 + 1 + 1 + 1 + 1, 0, none⟩) 2 2] 41).2 0 _ rfl
  rw [oWs11] at h
  exact h
theorem oRo1 (w : World) (k m : Nat) : RdO (oW12 w k m) (some ⟨w.heap.size + 1 + 1 + 1 + 1 + 1 + 1 + 1 + 1 + 1, 0, none⟩) 2 2 (oddR k 1) := by
  have h := rdO_made14 (oW9 w k m) #[.int .i64 1, .int .i64 (k : Int), .string ⟨#[]⟩, .int .i64 3, .int .i64 0, .string ⟨#[]⟩] 40 (n := 2) (l := oddR k 1) rfl rfl rfl (by decide)
  rw [oWs9] at h
  exact h.ext (oWx10 w k m)
theorem oCe1 (w : World) (k m : Nat) : (oW12 w k m).cell? ⟨w.heap.size + 1 + 1 + 1 + 1 + 1 + 1 + 1 + 1 + 1 + 1 + 1, 1, none⟩ = some (.slice (some ⟨w.heap.size + 1 + 1 + 1 + 1 + 1 + 1 + 1 + 1 + 1, 0, none⟩) 2 2) := by
  have h := (BoxG.made (oW11 w k m) #[.slice (some ⟨w.heap.size + 1 + 1 + 1 + 1 + 1 + 1 + 1 + 1, 0, none⟩) 2 2, .slice (some ⟨w.heap.size + 1 + 1 + 1 + 1 + 1 + 1 + 1 + 1 + 1, 0, none⟩) 2 2, .slice (some ⟨w.heap.size + 1 + 1 + 1 + 1 + 1 + 1 + 1 + 1 + 1 + 1, 0, none⟩) 2 2] 41).2 1 _ rfl
  rw [oWs11] at h
  exact h
theorem oRo2 (w : World) (k m : Nat) : RdO (oW12 w k m) (some ⟨w.heap.size + 1 + 1 + 1 + 1 + 1 + 1 + 1 + 1 + 1 + 1, 0, none⟩) 2 2 (oddR k 2) := by
  have h := rdO_made14 (oW10 w k m) #[.int .i64 2, .int .i64 0, .string ⟨#[]⟩, .int .i64 1, .int .i64 (k : Int), .string ⟨#[]⟩] 40 (n := 2) (l := oddR k 2) rfl rfl rfl (by decide)
  rw [oWs10] at h
  exact h.ext (oWx11 w k m)
theorem oCe2 (w : World) (k m : Nat) : (oW12 w k m).cell? ⟨w.heap.size + 1 + 1 + 1 + 1 + 1 + 1 + 1 + 1 + 1 + 1 + 1, 2, none⟩ = some (.slice (some ⟨w.heap.size + 1 + 1 + 1 + 1 + 1 + 1 + 1 + 1 + 1 + 1, 0, none⟩) 2 2) := by
  have h := (BoxG.made (oW11 w k m) #[.slice (some ⟨w.heap.size + 1 + 1 + 1 + 1 + 1 + 1 + 1 + 1, 0, none⟩) 2 2, .slice (some ⟨w.heap.size + 1 + 1 + 1 + 1 + 1 + 1 + 1 + 1 + 1, 0, none⟩) 2 2, .slice (some ⟨w.heap.size + 1 + 1 + 1 + 1 + 1 + 1 + 1 + 1 + 1 + 1, 0, none⟩) 2 2] 41).2 2 _ rfl
  rw [oWs11] at h
  exact h
theorem wordsOdd_c (n v : Int) (w : World) [Tab w] (hn : (Lit.int .u8 n).wf = true) (hv : (Lit.int .u8 v).wf = true) :
    Calls Tryd.prog 6 #[.int .u8 n, .int .u8 v] w fun e w' => e = .returned (.bool true) ∧ Below w.heap.size w w' := by
  obtain ⟨n0, n1⟩ := bounds_u8 hn
  obtain ⟨v0, v1⟩ := bounds_u8 hv
  obtain ⟨k, hk⟩ : ∃ k : Nat, 1 + n % 100 = (k : Int) := ⟨(1 + n % 100).toNat, by omega⟩
  have hk1 : 1 ≤ k := by omega
  have hk2 : k < 101 := by omega
  obtain ⟨m, hm⟩ : ∃ m : Nat, k % 31 = m := ⟨_, rfl⟩
  have hm2 : m < 31 := by omega
  have hm3 : (k : Int) % 31 = (m : Int) := by omega
  have HT : Hid (∀ r A c w', Ext w w' → Rd w' 1 (.slice A (oddB k r).length c) (oddB k r).length (Lib.byteCells (oddB k r)) → Calls Tryd.prog 15 #[.slice A (oddB k r).length c] w' (TakeR w' (8, [], 0))) := Lib.hid fun r A c w' hx hr => by
    have hTb := tab_ext hx
    have h := takeWP_c A _ c _ w' hr (by unfold oddB; split <;> simp)
    rw [oddB_take] at h
    exact h
  have HP : Hid (∀ r A c w', Ext w w' → RdO w' A 2 c (oddR k r) → Calls Tryd.prog 11 #[.slice A 2 c] w' fun e w'' => Ext w' w'' ∧ ∃ A' c', e = .returned (.tuple #[.slice A' 0 c', .int .i64 8])) := Lib.hid fun r A c w' hx hr => by
    have hTb := tab_ext hx
    refine (wordPut_c A 2 c _ w' hr (by omega) fun s hs => ?_).mono ?_
    · unfold oddR at hs
      split at hs <;> (simp only [List.mem_cons, List.not_mem_nil, or_false] at hs; rcases hs with rfl | rfl <;> exact Nat.zero_le _)
    · rintro e w'' ⟨hx, v, rfl, ho⟩
      have hB : wordB (oddR k r) = [] := by unfold wordB; rw [if_neg (by rw [oddR_put k r hk2 hk1]; decide)]
      rw [hB] at ho
      obtain ⟨A', c', rfl, _⟩ := ho.len
      rw [oddR_put k r hk2 hk1]
      exact ⟨hx, A', c', rfl⟩
  clear hn hv
  go_enter Tryd.func6, Tryd.ntmps6
  go_wp2_with fail
  refine (shown14_c _).mono ?_; rintro e w1 ⟨rfl, hx1⟩
  have e1 : Ext w w1 := hx1
  have E1 := Lib.hid e1
  clear hx1 e1
  have hR : v % 6 = 0 ∨ v % 6 = 1 ∨ v % 6 = 2 ∨ v % 6 = 3 ∨ v % 6 = 4 ∨ v % 6 = 5 := by omega
  have HM := Lib.hid hm
  rcases hR with hR | hR | hR | hR | hR | hR
  · have hR3 : v % 3 = 0 := by omega
    have CT : Hid (Calls Tryd.prog 15 #[.slice (some ⟨w1.heap.size, 0, none⟩) 2 2] (oW12 w1 k m) (TakeR (oW12 w1 k m) (8, [], 0))) := Lib.hid (HT.out 0 _ _ _ (E1.out.trans (oWx0 w1 k m)) (by have h := oRd0 w1 k m; exact h))
    have CC := Lib.hid (oCe0 w1 k m)
    have CR := Lib.hid (oRo0 w1 k m)
    have EW := Lib.hid (E1.out.trans (oWx0 w1 k m))
    clear hm
    go_wp2_with fail
    refine CT.out.mono ?_; rintro e w2 ⟨hx2, a2, n2, c2, rfl, r2⟩
    obtain ⟨hl2, _⟩ := r2
    simp only [List.length_nil] at hl2
    subst hl2
    have p2 := ext_cell hx2 CC.out
    go_wp2_with fail
    refine (HP.out 0 _ _ _ (EW.out.trans hx2) (CR.out.ext hx2)).mono ?_; rintro e w3 ⟨hx3, a3, c3, rfl⟩
    have e3 := (EW.out.trans hx2).trans hx3
    go_wp2_with fail
    go_ret
    exact ⟨rfl, e3⟩
  · have hR3 : v % 3 = 1 := by omega
    have CT : Hid (Calls Tryd.prog 15 #[.slice (some ⟨w1.heap.size + 1, 0, none⟩) 2 2] (oW12 w1 k m) (TakeR (oW12 w1 k m) (8, [], 0))) := Lib.hid (HT.out 1 _ _ _ (E1.out.trans (oWx0 w1 k m)) (by have h := oRd1 w1 k m; exact h))
    have CC := Lib.hid (oCe1 w1 k m)
    have CR := Lib.hid (oRo1 w1 k m)
    have EW := Lib.hid (E1.out.trans (oWx0 w1 k m))
    clear hm
    go_wp2_with fail
    refine CT.out.mono ?_; rintro e w2 ⟨hx2, a2, n2, c2, rfl, r2⟩
    obtain ⟨hl2, _⟩ := r2
    simp only [List.length_nil] at hl2
    subst hl2
    have p2 := ext_cell hx2 CC.out
    go_wp2_with fail
    refine (HP.out 1 _ _ _ (EW.out.trans hx2) (CR.out.ext hx2)).mono ?_; rintro e w3 ⟨hx3, a3, c3, rfl⟩
    have e3 := (EW.out.trans hx2).trans hx3
    go_wp2_with fail
    go_ret
    exact ⟨rfl, e3⟩
  · have hR3 : v % 3 = 2 := by omega
    have CT : Hid (Calls Tryd.prog 15 #[.slice (some ⟨w1.heap.size + 1 + 1, 0, none⟩) 2 2] (oW12 w1 k m) (TakeR (oW12 w1 k m) (8, [], 0))) := Lib.hid (HT.out 2 _ _ _ (E1.out.trans (oWx0 w1 k m)) (by have h := oRd2 w1 k m; exact h))
    have CC := Lib.hid (oCe2 w1 k m)
    have CR := Lib.hid (oRo2 w1 k m)
    have EW := Lib.hid (E1.out.trans (oWx0 w1 k m))
    clear hm
    go_wp2_with fail
    refine CT.out.mono ?_; rintro e w2 ⟨hx2, a2, n2, c2, rfl, r2⟩
    obtain ⟨hl2, _⟩ := r2
    simp only [List.length_nil] at hl2
    subst hl2
    have p2 := ext_cell hx2 CC.out
    go_wp2_with fail
    refine (HP.out 2 _ _ _ (EW.out.trans hx2) (CR.out.ext hx2)).mono ?_; rintro e w3 ⟨hx3, a3, c3, rfl⟩
    have e3 := (EW.out.trans hx2).trans hx3
    go_wp2_with fail
    go_ret
    exact ⟨rfl, e3⟩
  · have hR3 : v % 3 = 0 := by omega
    have CT : Hid (Calls Tryd.prog 15 #[.slice (some ⟨w1.heap.size + 1 + 1 + 1, 0, none⟩) 3 3] (oW12 w1 k m) (TakeR (oW12 w1 k m) (8, [], 0))) := Lib.hid (HT.out 3 _ _ _ (E1.out.trans (oWx0 w1 k m)) (by have h := oRd3 w1 k m hm2; subst hm; exact h))
    have CC := Lib.hid (oCe0 w1 k m)
    have CR := Lib.hid (oRo0 w1 k m)
    have EW := Lib.hid (E1.out.trans (oWx0 w1 k m))
    clear hm
    go_wp2_with fail
    refine CT.out.mono ?_; rintro e w2 ⟨hx2, a2, n2, c2, rfl, r2⟩
    obtain ⟨hl2, _⟩ := r2
    simp only [List.length_nil] at hl2
    subst hl2
    have p2 := ext_cell hx2 CC.out
    go_wp2_with fail
    refine (HP.out 0 _ _ _ (EW.out.trans hx2) (CR.out.ext hx2)).mono ?_; rintro e w3 ⟨hx3, a3, c3, rfl⟩
    have e3 := (EW.out.trans hx2).trans hx3
    go_wp2_with fail
    go_ret
    exact ⟨rfl, e3⟩
  · have hR3 : v % 3 = 1 := by omega
    have CT : Hid (Calls Tryd.prog 15 #[.slice (some ⟨w1.heap.size + 1 + 1 + 1 + 1, 0, none⟩) 3 3] (oW12 w1 k m) (TakeR (oW12 w1 k m) (8, [], 0))) := Lib.hid (HT.out 4 _ _ _ (E1.out.trans (oWx0 w1 k m)) (by have h := oRd4 w1 k m; exact h))
    have CC := Lib.hid (oCe1 w1 k m)
    have CR := Lib.hid (oRo1 w1 k m)
    have EW := Lib.hid (E1.out.trans (oWx0 w1 k m))
    clear hm
    go_wp2_with fail
    refine CT.out.mono ?_; rintro e w2 ⟨hx2, a2, n2, c2, rfl, r2⟩
    obtain ⟨hl2, _⟩ := r2
    simp only [List.length_nil] at hl2
    subst hl2
    have p2 := ext_cell hx2 CC.out
    go_wp2_with fail
    refine (HP.out 1 _ _ _ (EW.out.trans hx2) (CR.out.ext hx2)).mono ?_; rintro e w3 ⟨hx3, a3, c3, rfl⟩
    have e3 := (EW.out.trans hx2).trans hx3
    go_wp2_with fail
    go_ret
    exact ⟨rfl, e3⟩
  · have hR3 : v % 3 = 2 := by omega
    have CT : Hid (Calls Tryd.prog 15 #[.slice (some ⟨w1.heap.size + 1 + 1 + 1 + 1 + 1, 0, none⟩) 2 2] (oW12 w1 k m) (TakeR (oW12 w1 k m) (8, [], 0))) := Lib.hid (HT.out 5 _ _ _ (E1.out.trans (oWx0 w1 k m)) (by have h := oRd5 w1 k m hm2; subst hm; exact h))
    have CC := Lib.hid (oCe2 w1 k m)
    have CR := Lib.hid (oRo2 w1 k m)
    have EW := Lib.hid (E1.out.trans (oWx0 w1 k m))
    clear hm
    go_wp2_with fail
    refine CT.out.mono ?_; rintro e w2 ⟨hx2, a2, n2, c2, rfl, r2⟩
    obtain ⟨hl2, _⟩ := r2
    simp only [List.length_nil] at hl2
    subst hl2
    have p2 := ext_cell hx2 CC.out
    go_wp2_with fail
    refine (HP.out 2 _ _ _ (EW.out.trans hx2) (CR.out.ext hx2)).mono ?_; rintro e w3 ⟨hx3, a3, c3, rfl⟩
    have e3 := (EW.out.trans hx2).trans hx3
    go_wp2_with fail
    go_ret
    exact ⟨rfl, e3⟩
end Go.Proofs.YtggoimakbadbkaaDoor
