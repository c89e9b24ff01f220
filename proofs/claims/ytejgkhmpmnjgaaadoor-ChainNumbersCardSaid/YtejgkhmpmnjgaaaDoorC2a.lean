/- Layer 2, the reference: Put. -/
import Derived.Test.YtejgkhmpmnjgaaaDoorBa
import Derived.Test.YtejgkhmpmnjgaaaDoorMb
namespace Go.Proofs.YtejgkhmpmnjgaaaDoor
open Go.RowKit
set_option maxRecDepth 100000
set_option maxHeartbeats 1000000

/-- What Put answers. -/
def PutR (w : World) (n : Int) (e : Ending) (w' : World) : Prop :=
  Ext w w' ∧ (((n < 0 ∨ 268435455 < n) ∧ e = .returned (.tuple #[.slice none 0 0, .int .i64 2])) ∨
    ∃ (m : Nat) (v : Value), n = (m : Int) ∧ m < 268435456 ∧ e = .returned (.tuple #[v, .int .i64 0]) ∧ Rd w' 1 v (putL m).length (Lib.byteCells (putL m)))
/-- .. the bytes are the call's own. -/
def PutO (w : World) (n : Int) (e : Ending) (w' : World) : Prop :=
  Ext w w' ∧ (((n < 0 ∨ 268435455 < n) ∧ e = .returned (.tuple #[.slice none 0 0, .int .i64 2])) ∨
    ∃ (m : Nat) (v : Value), n = (m : Int) ∧ m < 268435456 ∧ e = .returned (.tuple #[v, .int .i64 0]) ∧ Own w' w.heap.size 5 1 v (putL m).length (Lib.byteCells (putL m)))
theorem PutO.put {w : World} {n : Int} {e : Ending} {w' : World} (h : PutO w n e w') : PutR w n e w' := by
  rcases h with ⟨hx, h | ⟨m, v, h1, h2, h3, h4⟩⟩
  · exact ⟨hx, .inl h⟩
  · exact ⟨hx, .inr ⟨m, v, h1, h2, h3, h4.rd⟩⟩
theorem info_u8b : (Tryd.prog.info? 5).map (fun i => (i.zero, i.size, i.bytes)) = some (some (.int .u8 0), 1, 1) := by kernel_rfl
theorem byteCells_snoc (l : List UInt8) (n : Nat) (h : n < 256) : Lib.byteCells (l ++ [u8 n]) = Lib.byteCells l ++ [Value.int .u8 (n : Int)] := by
  simp [Lib.byteCells, u8_toNat h]

/-- How far Put has come: what it wrote, and what is left. -/
def PutAt (x : Nat) (pre : List UInt8) (m : Nat) : Prop := putL x = pre ++ putF (4 - pre.length) m ∧ ((pre.length = 0 ∧ m < 268435456) ∨ (pre.length = 1 ∧ m < 2097152) ∨ (pre.length = 2 ∧ m < 16384) ∨ (pre.length = 3 ∧ m < 128))
theorem PutAt.start (x : Nat) (h : x < 268435456) : PutAt x [] x := ⟨rfl, .inl ⟨rfl, h⟩⟩
theorem PutAt.next {x : Nat} {pre : List UInt8} {m : Nat} (h : PutAt x pre m) (hm : 128 ≤ m) : PutAt x (pre ++ [u8 (128 + m % 128)]) (m / 128) := by
  obtain ⟨h1, h2⟩ := h
  have hl : pre.length ≤ 2 := by rcases h2 with h | h | h | h <;> omega
  obtain ⟨k, hk⟩ : ∃ k, 4 - pre.length = k + 1 := ⟨3 - pre.length, by omega⟩
  refine ⟨?_, ?_⟩
  · rw [h1, hk, putF, if_neg (by omega), List.append_assoc, List.length_append, List.length_singleton, show 4 - (pre.length + 1) = k from by omega]
    rfl
  · rw [List.length_append, List.length_singleton]
    have e1 : 268435456 = 2097152 * 128 := rfl
    rcases h2 with ⟨h, h'⟩ | ⟨h, h'⟩ | ⟨h, h'⟩ | ⟨h, h'⟩
    · exact .inr (.inl ⟨by omega, by omega⟩)
    · exact .inr (.inr (.inl ⟨by omega, by omega⟩))
    · exact .inr (.inr (.inr ⟨by omega, by omega⟩))
    · omega
theorem PutAt.last {x : Nat} {pre : List UInt8} {m : Nat} (h : PutAt x pre m) (hm : m < 128) : putL x = pre ++ [u8 m] := by
  obtain ⟨h1, h2⟩ := h
  have hl : pre.length ≤ 3 := by rcases h2 with h | h | h | h <;> omega
  obtain ⟨k, hk⟩ : ∃ k, 4 - pre.length = k + 1 := ⟨3 - pre.length, by omega⟩
  rw [h1, hk, putF, if_pos hm]
theorem PutAt.len {x : Nat} {pre : List UInt8} {m : Nat} (h : PutAt x pre m) : pre.length ≤ 3 := by
  rcases h.2 with h | h | h | h <;> omega
end Go.Proofs.YtejgkhmpmnjgaaaDoor
