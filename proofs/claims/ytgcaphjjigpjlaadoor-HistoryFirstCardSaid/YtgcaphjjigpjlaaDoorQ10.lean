/- Packed: Fr. -/
import Derived.BigQuiet
import Derived.ChangeOld
import Derived.Deep.QuietTactic
import Derived.Deep.Slices
import Derived.Laws.AppendOwnNone
import Derived.Laws.BytesArg
import Derived.Lib.DecodeN
import Derived.Lib.Hide
import Derived.Lib.Strings
import Derived.Lib.UnsafeStr
import Derived.OpenShut
import Derived.ProofKit
import Derived.ShutString
import Derived.StillTailTactics
import Derived.Test.YtgcaphjjigpjlaaDoorProg
import Derived.WalkKit
import Derived.WalkLawsBesides
import Derived.WalkSpells
import Derived.Test.YtgcaphjjigpjlaaDoorQ00
import Derived.Test.YtgcaphjjigpjlaaDoorQ01
import Derived.Test.YtgcaphjjigpjlaaDoorQ02
namespace Go.Proofs.YtgcaphjjigpjlaaDoor
open Go.ChangeShapes Go.WideShapes Go.ChangeAt Go.RowKit
theorem spot_none {w : World} {x : Addr} {u : Value} (h : w.cell? (x.add 0) = some u) : ∃ b o, x = ⟨b, o, none⟩ := by
  obtain ⟨b, o, sp⟩ := x
  cases sp with
  | none => exact ⟨b, o, rfl⟩
  | some q =>
    exfalso
    have e : (⟨b, o, some q⟩ : Addr).add 0 = ⟨b, o, some q⟩ := by unfold Addr.add; simp
    rw [e] at h
    unfold World.cell? at h
    split at h
    · simp at h
    · cases h
theorem add_none (b o i : Nat) : (⟨b, o, none⟩ : Addr).add i = ⟨b, o + i, none⟩ := by
  unfold Addr.add; split
  · rename_i h; subst h; rfl
  · rfl
theorem Rd.of_cells {w : World} {size : Nat} {x : Addr} {n c : Nat} {xs : List Value} (hl : xs.length = n * size) (hc : n ≤ c) (hs : 0 < size)
    (h : ∀ (j : Nat) (u : Value), xs[j]? = some u → w.cell? (x.add j) = some u) : Rd w size (.slice (some x) n c) n xs := by
  refine ⟨hl, some x, c, rfl, hc, fun hn => ?_⟩
  have hpos : 0 < xs.length := by rw [hl]; exact Nat.mul_pos hn hs
  have h0 := h 0 xs[0] (List.getElem?_eq_getElem hpos)
  obtain ⟨b, o, rfl⟩ := spot_none h0
  have hb : b < w.heap.size := by
    have := World.block_lt_of_cell? _ _ h0
    rw [add_none] at this; exact this
  exact ⟨b, o, rfl, hb, fun j u hu => by rw [← add_none]; exact h j u hu⟩
end Go.Proofs.YtgcaphjjigpjlaaDoor
namespace Go.Proofs.YtgcaphjjigpjlaaDoor
open Go.ChangeShapes Go.WideShapes Go.ChangeAt Go.RowKit
set_option maxRecDepth 100000
def IsSpans (w : World) (a : Option Addr) (len cap : Nat) (l : List Sp) : Prop :=
  l.length = len ∧ Rd w 3 (.slice a len cap) len (spCells l) ∧ ∀ s ∈ l, (Lit.int .i64 s.1).wf = true ∧ (Lit.int .i64 s.2.1).wf = true ∧ s.2.2.size ≤ maxLen
theorem list_of_each {α : Type} (Q : Nat → α → Prop) (n : Nat) (h : ∀ i, i < n → ∃ s, Q i s) : ∃ l : List α, l.length = n ∧ ∀ i s, l[i]? = some s → Q i s := by
  induction n with
  | zero => exact ⟨[], rfl, by simp⟩
  | succ n ih =>
    obtain ⟨l, hl, hq⟩ := ih (fun i hi => h i (by omega))
    obtain ⟨s, hs⟩ := h n (by omega)
    refine ⟨l ++ [s], by simp [hl], fun i u hu => ?_⟩
    rw [List.getElem?_append] at hu
    split at hu
    · exact hq i u hu
    · have hi : i = n := by
        rcases Nat.lt_trichotomy i n with h1 | h1 | h1
        · omega
        · exact h1
        · rw [List.getElem?_eq_none (by simp; omega)] at hu; cases hu
      subst hi
      rw [hl, Nat.sub_self] at hu
      simp at hu
      rw [← hu]; exact hs
theorem open_spans_rd {H : Type} {enc : TypeId × Value → H} {P : Program} {w : World} {sp : Nat → Bool} {t e : TypeId} {f0 f1 f2 : Field} {a : Option Addr} {len cap : Nat} {d : DataW H} {p : List MemPlace} (ht : P.underlying t = some (.slice e)) (he : P.underlying e = some (.struct #[f0, f1, f2]))
    (o0 : f0.offset = 0) (o1 : f1.offset = 1) (o2 : f2.offset = 2) (h0 : P.underlying f0.type = some (.int .i64)) (h1 : P.underlying f1.type = some (.int .i64)) (h2 : P.underlying f2.type = some .string)
    (c0 : P.cellsOf f0.type = 1) (c1 : P.cellsOf f1.type = 1) (c2 : P.cellsOf f2.type = 1) (hct : P.cellsOf e = 3)
    (h : DataW.Trod enc P w 0 sp true t (.slice a len cap) d p) : ∃ l, IsSpans w a len cap l := by
  obtain ⟨fuel, hf⟩ := h
  rcases Go.Deep.open_slice ht hf with ⟨hcs, _⟩ | ⟨x, l, c, m, n, D, Pl, hcs, _, hl, hm, hmm, _, hx⟩
  · simp [Value.cells] at hcs
    obtain ⟨rfl, rfl, rfl⟩ := hcs
    exact ⟨[], rfl, Rd.nil w 3, by simp⟩
  · simp [Value.cells] at hcs
    obtain ⟨rfl, rfl, rfl⟩ := hcs
    have hlm : len ≤ m := by rw [hmm]; split <;> omega
    obtain ⟨l, hll, hq⟩ := list_of_each (fun i (s : Sp) => w.cell? (x.add (i * 3)) = some (.int .i64 s.1) ∧ w.cell? (x.add (i * 3 + 1)) = some (.int .i64 s.2.1) ∧ w.cell? (x.add (i * 3 + 2)) = some (.string s.2.2) ∧
        (Lit.int .i64 s.1).wf = true ∧ (Lit.int .i64 s.2.1).wf = true ∧ s.2.2.size ≤ maxLen) len (by
      intro i hi
      obtain ⟨cs', g1, g2⟩ := hx i (by omega)
      rw [hct] at g1
      obtain ⟨_, hlen, hcell⟩ := World.cells?_some g1
      obtain ⟨xs, k, _, _, _, hxl, hel⟩ := DataW.trod_struct he g2
      have hx3 : xs.length = 3 := hxl
      have e0 := hel 0 f0 rfl
      have e1 := hel 1 f1 rfl
      have e2 := hel 2 f2 rfl
      rw [o0, c0] at e0
      rw [o1, c1] at e1
      rw [o2, c2] at e2
      rw [List.getElem?_eq_getElem (show 0 < xs.length by omega)] at e0
      rw [List.getElem?_eq_getElem (show 1 < xs.length by omega)] at e1
      rw [List.getElem?_eq_getElem (show 2 < xs.length by omega)] at e2
      obtain ⟨kk, hk, _, wk⟩ := DataW.trod_int h0 e0
      obtain ⟨nn, hn, _, wn⟩ := DataW.trod_int h1 e1
      obtain ⟨s, hs, _, ws⟩ := DataW.trod_string h2 e2
      obtain ⟨u0, u1, u2, hc⟩ : ∃ a b c, cs' = [a, b, c] := by
        match cs', hlen with
        | [a, b, c], _ => exact ⟨a, b, c, rfl⟩
      rw [hc] at hk hn hs hcell
      simp at hk hn hs
      subst hk; subst hn; subst hs
      have k0 := hcell 0 (by omega)
      have k1 := hcell 1 (by omega)
      have k2 := hcell 2 (by omega)
      rw [Go.Deep.add_add] at k0 k1 k2
      exact ⟨(kk, nn, s), k0, k1, k2, wk, wn, ws⟩)
    refine ⟨l, hll, Rd.of_cells (by rw [spCells_length, hll]) hl (by omega) (fun j u hu => ?_), fun s hs => ?_⟩
    · have hjl : j < (spCells l).length := by
        rcases Nat.lt_or_ge j (spCells l).length with g | g
        · exact g
        · rw [List.getElem?_eq_none g] at hu; cases hu
      rw [spCells_length] at hjl
      have hi : j / 3 < l.length := by omega
      obtain ⟨q0, q1, q2, _⟩ := hq (j / 3) l[j / 3] (List.getElem?_eq_getElem hi)
      obtain ⟨r0, r1, r2⟩ := spCells_at l (j / 3) hi
      rcases (by omega : j = j / 3 * 3 ∨ j = j / 3 * 3 + 1 ∨ j = j / 3 * 3 + 2) with e | e | e
      · rw [← e] at r0 q0
        rw [r0] at hu; rw [q0]; exact hu
      · rw [← e] at r1 q1
        rw [r1] at hu; rw [q1]; exact hu
      · rw [← e] at r2 q2
        rw [r2] at hu; rw [q2]; exact hu
    · obtain ⟨i, hi, rfl⟩ := List.getElem_of_mem hs
      obtain ⟨_, _, _, g⟩ := hq i l[i] (List.getElem?_eq_getElem hi)
      exact g
end Go.Proofs.YtgcaphjjigpjlaaDoor
namespace Go.Proofs.YtgcaphjjigpjlaaDoor
open Go.ChangeShapes Go.WideShapes Go.ChangeAt Go.RowKit
set_option maxRecDepth 100000
end Go.Proofs.YtgcaphjjigpjlaaDoor
