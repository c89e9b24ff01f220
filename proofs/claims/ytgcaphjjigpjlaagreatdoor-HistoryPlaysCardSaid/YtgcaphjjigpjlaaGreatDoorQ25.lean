/- Packed: Fh Fy. -/
import Derived.ArgAppend
import Derived.BigQuiet
import Derived.ChangeOld
import Derived.Deep.DrawnRows
import Derived.Deep.MidRow
import Derived.Deep.QuietTactic
import Derived.Deep.RegionHeld3
import Derived.Deep.RegionWith
import Derived.Deep.Slices
import Derived.Deep.Upon
import Derived.Laws.AppendOwnNone
import Derived.Laws.BytesArg
import Derived.Laws.IdiomCopy
import Derived.Laws.MakeOwn
import Derived.Lib.AppendStr
import Derived.Lib.Builder
import Derived.Lib.DecodeN
import Derived.Lib.Hide
import Derived.Lib.Strings
import Derived.Lib.UnsafeStr
import Derived.OpenShut
import Derived.ProofKit
import Derived.ShutString
import Derived.StillTail
import Derived.StillTailTactics
import Derived.Test.YtgcaphjjigpjlaaGreatDoorProg
import Derived.Test.YtgcaphjjigpjlaaGreatDoorShelf
import Derived.WalkKit
import Derived.WalkLawsBesides
import Derived.WalkSpells
import Derived.Test.YtgcaphjjigpjlaaGreatDoorQ00
import Derived.Test.YtgcaphjjigpjlaaGreatDoorQ01
import Derived.Test.YtgcaphjjigpjlaaGreatDoorQ02
import Derived.Test.YtgcaphjjigpjlaaGreatDoorQ03
import Derived.Test.YtgcaphjjigpjlaaGreatDoorQ05
import Derived.Test.YtgcaphjjigpjlaaGreatDoorQ06
import Derived.Test.YtgcaphjjigpjlaaGreatDoorQ07
import Derived.Test.YtgcaphjjigpjlaaGreatDoorQ09
namespace Go.Proofs.YtgcaphjjigpjlaaGreatDoor
open Go.ChangeShapes Go.WideShapes Go.ChangeAt Go.RowKit
set_option maxRecDepth 100000
theorem spans_open {H : Type} {enc : TypeId × Value → H} {P : Program} {w : World} {sp : Nat → Bool} {held : Bool} {fuel : Nat} {t e : TypeId} {f0 f1 f2 : Field} {cs : List Value} {x : DataW H × List MemPlace} (ht : P.underlying t = some (.slice e)) (he : P.underlying e = some (.struct #[f0, f1, f2]))
    (o0 : f0.offset = 0) (o1 : f1.offset = 1) (o2 : f2.offset = 2) (h0 : P.underlying f0.type = some (.int .i64)) (h1 : P.underlying f1.type = some (.int .i64)) (h2 : P.underlying f2.type = some .string)
    (c0 : P.cellsOf f0.type = 1) (c1 : P.cellsOf f1.type = 1) (c2 : P.cellsOf f2.type = 1) (hct : P.cellsOf e = 3)
    (h : DataW.trod enc P w 0 sp held fuel t cs = some x) : ∃ a len cap l, cs = [.slice a len cap] ∧ IsSpans w a len cap l := by
  rcases Go.Deep.open_slice ht h with ⟨hcs, _⟩ | ⟨x, len, cap, m, n, D, Pl, hcs, _, hl, hm, hmm, _, hx⟩
  · exact ⟨none, 0, 0, [], hcs, rfl, Rd.nil w 3, by simp⟩
  · have hlm : len ≤ m := by rw [hmm]; split <;> omega
    obtain ⟨l, hll, hq⟩ := list_of_each (fun i (s : Sp) => w.cell? (x.add (i * 3)) = some (.int .i64 s.1) ∧ w.cell? (x.add (i * 3 + 1)) = some (.int .i64 s.2.1) ∧ w.cell? (x.add (i * 3 + 2)) = some (.string s.2.2) ∧
        (Lit.int .i64 s.1).wf = true ∧ (Lit.int .i64 s.2.1).wf = true ∧ s.2.2.size ≤ maxLen) len (by
      intro i hi
      obtain ⟨cs', g1, g2⟩ := hx i (by omega)
      rw [hct] at g1
      obtain ⟨_, hlen, hcell⟩ := World.cells?_some g1
      obtain ⟨xs, k, _, _, _, hxl, hel⟩ := DataW.trod_struct he g2
      have hx3 : xs.length = 3 := hxl
      have e0 := hel 0 f0 rfl
      have e1 := hel 1 f1 rfl
      have e2 := hel 2 f2 rfl
      rw [o0, c0] at e0
      rw [o1, c1] at e1
      rw [o2, c2] at e2
      rw [List.getElem?_eq_getElem (show 0 < xs.length by omega)] at e0
      rw [List.getElem?_eq_getElem (show 1 < xs.length by omega)] at e1
      rw [List.getElem?_eq_getElem (show 2 < xs.length by omega)] at e2
      obtain ⟨kk, hk, _, wk⟩ := DataW.trod_int h0 e0
      obtain ⟨nn, hn, _, wn⟩ := DataW.trod_int h1 e1
      obtain ⟨s, hs, _, ws⟩ := DataW.trod_string h2 e2
      obtain ⟨u0, u1, u2, hc⟩ : ∃ a b c, cs' = [a, b, c] := by
        match cs', hlen with
        | [a, b, c], _ => exact ⟨a, b, c, rfl⟩
      rw [hc] at hk hn hs hcell
      simp at hk hn hs
      subst hk; subst hn; subst hs
      have k0 := hcell 0 (by omega)
      have k1 := hcell 1 (by omega)
      have k2 := hcell 2 (by omega)
      rw [Go.Deep.add_add] at k0 k1 k2
      exact ⟨(kk, nn, s), k0, k1, k2, wk, wn, ws⟩)
    refine ⟨some x, len, cap, l, hcs, hll, Rd.of_cells (by rw [spCells_length, hll]) hl (by omega) (fun j u hu => ?_), fun s hs => ?_⟩
    · have hjl : j < (spCells l).length := by
        rcases Nat.lt_or_ge j (spCells l).length with g | g
        · exact g
        · rw [List.getElem?_eq_none g] at hu; cases hu
      rw [spCells_length] at hjl
      have hi : j / 3 < l.length := by omega
      obtain ⟨q0, q1, q2, _⟩ := hq (j / 3) l[j / 3] (List.getElem?_eq_getElem hi)
      obtain ⟨r0, r1, r2⟩ := spCells_at l (j / 3) hi
      rcases (by omega : j = j / 3 * 3 ∨ j = j / 3 * 3 + 1 ∨ j = j / 3 * 3 + 2) with e | e | e
      · rw [← e] at r0 q0
        rw [r0] at hu; rw [q0]; exact hu
      · rw [← e] at r1 q1
        rw [r1] at hu; rw [q1]; exact hu
      · rw [← e] at r2 q2
        rw [r2] at hu; rw [q2]; exact hu
    · obtain ⟨i, hi, rfl⟩ := List.getElem_of_mem hs
      obtain ⟨_, _, _, g⟩ := hq i l[i] (List.getElem?_eq_getElem hi)
      exact g
def IsSS (w : World) (a : Option Addr) (n c : Nat) (ls : List (List Sp)) : Prop :=
  RdSS w a n c ls ∧ n ≤ c ∧ c ≤ maxLen ∧ ∀ l ∈ ls, ∀ s ∈ l, (Lit.int .i64 s.1).wf = true ∧ (Lit.int .i64 s.2.1).wf = true ∧ s.2.2.size ≤ maxLen
theorem ss_open {H : Type} {enc : TypeId × Value → H} {P : Program} {w : World} {sp : Nat → Bool} {held : Bool} {fuel : Nat} {T t e : TypeId} {f0 f1 f2 : Field} {cs : List Value} {x : DataW H × List MemPlace} (hT : P.underlying T = some (.slice t)) (hcT : P.cellsOf t = 1) (ht : P.underlying t = some (.slice e)) (he : P.underlying e = some (.struct #[f0, f1, f2]))
    (o0 : f0.offset = 0) (o1 : f1.offset = 1) (o2 : f2.offset = 2) (h0 : P.underlying f0.type = some (.int .i64)) (h1 : P.underlying f1.type = some (.int .i64)) (h2 : P.underlying f2.type = some .string)
    (c0 : P.cellsOf f0.type = 1) (c1 : P.cellsOf f1.type = 1) (c2 : P.cellsOf f2.type = 1) (hct : P.cellsOf e = 3)
    (h : DataW.trod enc P w 0 sp held fuel T cs = some x) : ∃ a n c ls, cs = [.slice a n c] ∧ IsSS w a n c ls := by
  rcases Go.Deep.open_slice1 hT hcT h with ⟨rfl, _⟩ | ⟨a, len, cap, m, n, V, D, Pl, rfl, _, hl, hm, hmm, _, hx⟩
  · exact ⟨none, 0, 0, [], rfl, RdSS.nil w, Nat.le_refl _, by simp [maxLen], by simp⟩
  · have hlm : len ≤ m := by rw [hmm]; split <;> omega
    obtain ⟨ls, hls, hq⟩ := list_of_each (fun i (l : List Sp) => ∃ b k, w.cell? (a.add i) = some (.slice b l.length k) ∧ IsSpans w b l.length k l) len (by
      intro i hi
      obtain ⟨g1, g2⟩ := hx i (by omega)
      obtain ⟨b, q, k, l, hs, hl⟩ := spans_open ht he o0 o1 o2 h0 h1 h2 c0 c1 c2 hct g2
      injection hs with hs
      have hq := hl.1
      subst hq
      exact ⟨l, b, k, by rw [g1, hs], hl⟩)
    obtain ⟨vs, hvs, hv⟩ := list_of_each (fun i (v : Value) => w.cell? (a.add i) = some v) len (by
      intro i hi
      exact ⟨V i, (hx i (by omega)).1⟩)
    refine ⟨some a, len, cap, ls, rfl, ⟨hls, vs, Rd.of_cells (by omega) hl (by omega) (fun j u hu => hv j u hu), fun i l hi => ?_⟩, hl, hm, fun l hl s hs => ?_⟩
    · obtain ⟨b, k, g1, g2⟩ := hq i l hi
      refine ⟨b, k, ?_, g2.2.1⟩
      have hil : i < vs.length := by
        have := (List.getElem?_eq_some_iff.1 hi).1
        omega
      have := hv i vs[i] (List.getElem?_eq_getElem hil)
      rw [g1] at this
      injection this with this
      rw [List.getElem?_eq_getElem hil, this]
    · obtain ⟨i, hi⟩ := List.getElem?_of_mem hl
      obtain ⟨b, k, _, g2⟩ := hq i l hi
      exact g2.2.2 s hs
end Go.Proofs.YtgcaphjjigpjlaaGreatDoor
namespace Go.Proofs.YtgcaphjjigpjlaaGreatDoor
open Go.ChangeShapes Go.WideShapes Go.ChangeAt Go.RowKit
set_option maxRecDepth 100000
theorem open_ask {H : Type} {enc : TypeId × Value → H} {P : Program} {w : World} {r : Reach} {b0 : Nat} {sp : Nat → Bool} {t t0 e : TypeId} {f0 f1 f2 g0 g1 g2 : Field} {v : Value} {d : DataW H} {p : List MemPlace} (ht : P.underlying t = some (.struct #[f0, f1, f2]))
    (o0 : f0.offset = 0) (o1 : f1.offset = 1) (o2 : f2.offset = 2) (h0 : P.underlying f0.type = some (.slice t0)) (h1 : P.underlying f1.type = some (.int .i64)) (h2 : P.underlying f2.type = some (.int .i64)) (he : e = t0) (s2 : P.underlying t0 = some (.struct #[g0, g1, g2]))
    (p0 : g0.offset = 0) (p1 : g1.offset = 1) (p2 : g2.offset = 2) (q0 : P.underlying g0.type = some (.int .i64)) (q1 : P.underlying g1.type = some (.int .i64)) (q2 : P.underlying g2.type = some .string)
    (c0 : P.cellsOf f0.type = 1) (c1 : P.cellsOf f1.type = 1) (c2 : P.cellsOf f2.type = 1) (r0 : P.cellsOf g0.type = 1) (r1 : P.cellsOf g1.type = 1) (r2 : P.cellsOf g2.type = 1) (d2 : P.cellsOf t0 = 3) (hct : P.cellsOf t = 3) (hv : Value.okWide P w r b0 t v) (h : DataW.Trod enc P w 0 sp true t v d p) :
    ∃ (a : Option Addr) (n c : Nat) (l : List Sp) (k m : Int), v = .agg #[.slice a n c, .int .i64 k, .int .i64 m] ∧ IsSpans w a n c l := by
  subst he
  obtain ⟨cs, rfl, hsz⟩ := okWide_struct ht hv
  obtain ⟨fuel, hf⟩ := h
  have hf : DataW.trod enc P w 0 sp true fuel t cs.toList = some (d, p) := hf
  obtain ⟨xs, m, _, _, hl, hlen, hel⟩ := DataW.trod_struct ht hf
  have hx : xs.length = 3 := hlen
  have u0 := hel 0 f0 rfl
  have u1 := hel 1 f1 rfl
  have u2 := hel 2 f2 rfl
  rw [o0, c0, List.getElem?_eq_getElem (show 0 < xs.length by omega)] at u0
  rw [o1, c1, List.getElem?_eq_getElem (show 1 < xs.length by omega)] at u1
  rw [o2, c2, List.getElem?_eq_getElem (show 2 < xs.length by omega)] at u2
  obtain ⟨a, n, c, l, ha, wa⟩ := spans_open h0 s2 p0 p1 p2 q0 q1 q2 r0 r1 r2 d2 u0
  obtain ⟨k, hk, _, _⟩ := DataW.trod_int h1 u1
  obtain ⟨q, hq, _, _⟩ := DataW.trod_int h2 u2
  refine ⟨a, n, c, l, k, q, ?_, wa⟩
  rw [hct] at hsz
  have hl3 : cs.toList.length = 3 := by simpa using hsz
  obtain ⟨x, y, z, hc⟩ : ∃ x y z, cs.toList = [x, y, z] := by
    generalize cs.toList = l at hl3
    match l, hl3 with
    | [x, y, z], _ => exact ⟨x, y, z, rfl⟩
  rw [hc] at ha hk hq
  simp at ha hk hq
  subst ha; subst hk; subst hq
  congr 1
  apply Array.toList_inj.1
  rw [hc]
end Go.Proofs.YtgcaphjjigpjlaaGreatDoor
