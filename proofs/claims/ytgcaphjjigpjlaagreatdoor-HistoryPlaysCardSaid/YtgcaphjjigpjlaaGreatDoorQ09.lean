/- Packed: Fr. -/
import Derived.BigQuiet
import Derived.ChangeOld
import Derived.Deep.QuietTactic
import Derived.Deep.Slices
import Derived.Laws.AppendOwnNone
import Derived.Laws.BytesArg
import Derived.Lib.DecodeN
import Derived.Lib.Hide
import Derived.Lib.Strings
import Derived.Lib.UnsafeStr
import Derived.OpenShut
import Derived.ProofKit
import Derived.ShutString
import Derived.StillTailTactics
import Derived.Test.YtgcaphjjigpjlaaGreatDoorProg
import Derived.WalkKit
import Derived.WalkLawsBesides
import Derived.WalkSpells
import Derived.Test.YtgcaphjjigpjlaaGreatDoorQ00
import Derived.Test.YtgcaphjjigpjlaaGreatDoorQ01
import Derived.Test.YtgcaphjjigpjlaaGreatDoorQ02
namespace Go.Proofs.YtgcaphjjigpjlaaGreatDoor
open Go.ChangeShapes Go.WideShapes Go.ChangeAt Go.RowKit
theorem spot_none {w : World} {x : Addr} {u : Value} (h : w.cell? (x.add 0) = some u) : ∃ b o, x = ⟨b, o, none⟩ := by
  obtain ⟨b, o, sp⟩ := x
  cases sp with
  | none => exact ⟨b, o, rfl⟩
  | some q =>
    exfalso
    have e : (⟨b, o, some q⟩ : Addr).add 0 = ⟨b, o, some q⟩ := by unfold Addr.add; simp
    rw [e] at h
    unfold World.cell? at h
    split at h
    · simp at h
    · cases h
theorem add_none (b o i : Nat) : (⟨b, o, none⟩ : Addr).add i = ⟨b, o + i, none⟩ := by
  unfold Addr.add; split
  · rename_i h; subst h; rfl
  · rfl
theorem Rd.of_cells {w : World} {size : Nat} {x : Addr} {n c : Nat} {xs : List Value} (hl : xs.length = n * size) (hc : n ≤ c) (hs : 0 < size)
    (h : ∀ (j : Nat) (u : Value), xs[j]? = some u → w.cell? (x.add j) = some u) : Rd w size (.slice (some x) n c) n xs := by
  refine ⟨hl, some x, c, rfl, hc, fun hn => ?_⟩
  have hpos : 0 < xs.length := by rw [hl]; exact Nat.mul_pos hn hs
  have h0 := h 0 xs[0] (List.getElem?_eq_getElem hpos)
  obtain ⟨b, o, rfl⟩ := spot_none h0
  have hb : b < w.heap.size := by
    have := World.block_lt_of_cell? _ _ h0
    rw [add_none] at this; exact this
  exact ⟨b, o, rfl, hb, fun j u hu => by rw [← add_none]; exact h j u hu⟩
end Go.Proofs.YtgcaphjjigpjlaaGreatDoor
namespace Go.Proofs.YtgcaphjjigpjlaaGreatDoor
open Go.ChangeShapes Go.WideShapes Go.ChangeAt Go.RowKit
set_option maxRecDepth 100000
def IsSpans (w : World) (a : Option Addr) (len cap : Nat) (l : List Sp) : Prop :=
  l.length = len ∧ Rd w 3 (.slice a len cap) len (spCells l) ∧ ∀ s ∈ l, (Lit.int .i64 s.1).wf = true ∧ (Lit.int .i64 s.2.1).wf = true ∧ s.2.2.size ≤ maxLen
theorem list_of_each {α : Type} (Q : Nat → α → Prop) (n : Nat) (h : ∀ i, i < n → ∃ s, Q i s) : ∃ l : List α, l.length = n ∧ ∀ i s, l[i]? = some s → Q i s := by
  induction n with
  | zero => exact ⟨[], rfl, by simp⟩
  | succ n ih =>
    obtain ⟨l, hl, hq⟩ := ih (fun i hi => h i (by omega))
    obtain ⟨s, hs⟩ := h n (by omega)
    refine ⟨l ++ [s], by simp [hl], fun i u hu => ?_⟩
    rw [List.getElem?_append] at hu
    split at hu
    · exact hq i u hu
    · have hi : i = n := by
        rcases Nat.lt_trichotomy i n with h1 | h1 | h1
        · omega
        · exact h1
        · rw [List.getElem?_eq_none (by simp; omega)] at hu; cases hu
      subst hi
      rw [hl, Nat.sub_self] at hu
      simp at hu
      rw [← hu]; exact hs
end Go.Proofs.YtgcaphjjigpjlaaGreatDoor
namespace Go.Proofs.YtgcaphjjigpjlaaGreatDoor
open Go.ChangeShapes Go.WideShapes Go.ChangeAt Go.RowKit
set_option maxRecDepth 100000
end Go.Proofs.YtgcaphjjigpjlaaGreatDoor
