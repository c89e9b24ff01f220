/- Arguments opened: a log by value. -/
import Derived.Test.YtejgkhmpmnjgaaaDoorFr
import Derived.Test.YtejgkhmpmnjgaaaDoorFh
namespace Go.Proofs.YtejgkhmpmnjgaaaDoor
open Go.ChangeShapes Go.WideShapes Go.ChangeAt Go.RowKit
set_option maxRecDepth 100000
theorem ints_open16 {H : Type} {enc : TypeId × Value → H} {P : Program} {w : World} {base : Nat} {sp : Nat → Bool} {held : Bool} {fuel : Nat} {t e : TypeId} {cs : List Value} {x : DataW H × List MemPlace} (ht : P.underlying t = some (.slice e)) (he : P.underlying e = some (.int .i64)) (hc : P.cellsOf e = 1)
    (h : DataW.trod enc P w base sp held fuel t cs = some x) : ∃ a n c zs, cs = [.slice a n c] ∧ n ≤ maxLen ∧ Rd w 1 (.slice a n c) n (List.map (Value.int .i64) zs) := by
  rcases Go.Deep.open_slice1 ht hc h with ⟨rfl, _⟩ | ⟨a, len, cap, m, n, V, D, Pl, rfl, _, hl, hm, hmm, _, hx⟩
  · exact ⟨none, 0, 0, [], rfl, by simp [maxLen], Rd.nil w 1⟩
  · have hlm : len ≤ m := by rw [hmm]; split <;> omega
    obtain ⟨ts, hts, hq⟩ := list_of_each (fun i (s : Int) => w.cell? (a.add i) = some (.int .i64 s)) len (by
      intro i hi
      obtain ⟨g1, g2⟩ := hx i (by omega)
      obtain ⟨s, hs, _⟩ := DataW.trod_int he g2
      injection hs with hs
      exact ⟨s, by rw [g1, hs]⟩)
    refine ⟨some a, len, cap, ts, rfl, by omega, Rd.of_cells (by simp [hts]) hl (by omega) (fun j u hu => ?_)⟩
    rw [List.getElem?_map] at hu
    cases hj : ts[j]? with
    | none => rw [hj] at hu; cases hu
    | some s =>
      rw [hj] at hu
      injection hu with hu
      rw [← hu]
      exact hq j s hj
/-- A log, by value. -/
theorem open_log {H : Type} {enc : TypeId × Value → H} {P : Program} {w : World} {r : Reach} {b0 : Nat} {sp : Nat → Bool} {t e0 t1 e1 : TypeId} {f0 f1 f2 g0 g1 g2 : Field} {v : Value} {d : DataW H} {p : List MemPlace} (ht : P.underlying t = some (.struct #[f0, f1, f2]))
    (o0 : f0.offset = 0) (o1 : f1.offset = 1) (o2 : f2.offset = 2) (h0 : P.underlying f0.type = some .string) (h1 : P.underlying f1.type = some (.slice e0)) (s0 : P.underlying e0 = some (.int .i64)) (h2 : P.underlying f2.type = some (.slice t1)) (s1 : P.underlying t1 = some (.slice e1)) (s2 : P.underlying e1 = some (.struct #[g0, g1, g2]))
    (p0 : g0.offset = 0) (p1 : g1.offset = 1) (p2 : g2.offset = 2) (q0 : P.underlying g0.type = some (.int .i64)) (q1 : P.underlying g1.type = some (.int .i64)) (q2 : P.underlying g2.type = some .string)
    (c0 : P.cellsOf f0.type = 1) (c1 : P.cellsOf f1.type = 1) (c2 : P.cellsOf f2.type = 1) (d0 : P.cellsOf e0 = 1) (d1 : P.cellsOf t1 = 1) (r0 : P.cellsOf g0.type = 1) (r1 : P.cellsOf g1.type = 1) (r2 : P.cellsOf g2.type = 1) (d2 : P.cellsOf e1 = 3) (hct : P.cellsOf t = 3) (hv : Value.okWide P w r b0 t v) (h : DataW.Trod enc P w 0 sp true t v d p) :
    ∃ (s : ByteArray) (a : Option Addr) (n c : Nat) (zs : List Int) (b : Option Addr) (m k : Nat) (ls : List (List Sp)), v = .agg #[.string s, .slice a n c, .slice b m k] ∧ s.size ≤ maxLen ∧ n ≤ maxLen ∧ Rd w 1 (.slice a n c) n (List.map (Value.int .i64) zs) ∧ IsSS w b m k ls := by
  obtain ⟨cs, rfl, hsz⟩ := okWide_struct ht hv
  obtain ⟨fuel, hf⟩ := h
  have hf : DataW.trod enc P w 0 sp true fuel t cs.toList = some (d, p) := hf
  obtain ⟨xs, m, _, _, hl, hlen, hel⟩ := DataW.trod_struct ht hf
  have hx : xs.length = 3 := hlen
  have u0 := hel 0 f0 rfl
  have u1 := hel 1 f1 rfl
  have u2 := hel 2 f2 rfl
  rw [o0, c0, List.getElem?_eq_getElem (show 0 < xs.length by omega)] at u0
  rw [o1, c1, List.getElem?_eq_getElem (show 1 < xs.length by omega)] at u1
  rw [o2, c2, List.getElem?_eq_getElem (show 2 < xs.length by omega)] at u2
  obtain ⟨s, hs, _, ws⟩ := DataW.trod_string h0 u0
  obtain ⟨a, n, c, zs, ha, wn, wa⟩ := ints_open16 h1 s0 d0 u1
  obtain ⟨b, m', k, ls, hb, wb⟩ := ss_open h2 d1 s1 s2 p0 p1 p2 q0 q1 q2 r0 r1 r2 d2 u2
  refine ⟨s, a, n, c, zs, b, m', k, ls, ?_, ws, wn, wa, wb⟩
  rw [hct] at hsz
  have hl3 : cs.toList.length = 3 := by simpa using hsz
  obtain ⟨x, y, z, hc⟩ : ∃ x y z, cs.toList = [x, y, z] := by
    generalize cs.toList = l at hl3
    match l, hl3 with
    | [x, y, z], _ => exact ⟨x, y, z, rfl⟩
  rw [hc] at hs ha hb
  simp at hs ha hb
  subst hs; subst ha; subst hb
  congr 1
  apply Array.toList_inj.1
  rw [hc]
end Go.Proofs.YtejgkhmpmnjgaaaDoor
