/- Arguments of a statement, opened: slices of texts, of marks; gaps; slices of slices of spans. -/
import Derived.Test.YtejgkhmpmnjgaaaDoorBa
import Derived.ProofKit
import Derived.OpenShut
import Derived.ShutString
import Derived.ChangeOld
import Derived.Test.YtejgkhmpmnjgaaaDoorC4
import Derived.Deep.Slices
namespace Go.Proofs.YtejgkhmpmnjgaaaDoor
open Go.ChangeShapes Go.WideShapes Go.ChangeAt Go.RowKit

theorem spot_none {w : World} {x : Addr} {u : Value} (h : w.cell? (x.add 0) = some u) : ∃ b o, x = ⟨b, o, none⟩ := by
  obtain ⟨b, o, sp⟩ := x
  cases sp with
  | none => exact ⟨b, o, rfl⟩
  | some q =>
    exfalso
    have e : (⟨b, o, some q⟩ : Addr).add 0 = ⟨b, o, some q⟩ := by unfold Addr.add; simp
    rw [e] at h
    unfold World.cell? at h
    split at h
    · simp at h
    · cases h
theorem add_none (b o i : Nat) : (⟨b, o, none⟩ : Addr).add i = ⟨b, o + i, none⟩ := by
  unfold Addr.add; split
  · rename_i h; subst h; rfl
  · rfl

/-- Cells that begin at an address, all there: a slice of them reads. -/
theorem Rd.of_cells {w : World} {size : Nat} {x : Addr} {n c : Nat} {xs : List Value} (hl : xs.length = n * size) (hc : n ≤ c) (hs : 0 < size)
    (h : ∀ (j : Nat) (u : Value), xs[j]? = some u → w.cell? (x.add j) = some u) : Rd w size (.slice (some x) n c) n xs := by
  refine ⟨hl, some x, c, rfl, hc, fun hn => ?_⟩
  have hpos : 0 < xs.length := by rw [hl]; exact Nat.mul_pos hn hs
  have h0 := h 0 xs[0] (List.getElem?_eq_getElem hpos)
  obtain ⟨b, o, rfl⟩ := spot_none h0
  have hb : b < w.heap.size := by
    have := World.block_lt_of_cell? _ _ h0
    rw [add_none] at this; exact this
  exact ⟨b, o, rfl, hb, fun j u hu => by rw [← add_none]; exact h j u hu⟩

/-- A slice of integers that came in. -/
def IsInts (k : IntKind) (w : World) (a : Option Addr) (len cap : Nat) (zs : List Int) : Prop :=
  zs.length = len ∧ cap ≤ maxLen ∧ Rd w 1 (.slice a len cap) len (zs.map (Value.int k)) ∧ ∀ n ∈ zs, (Lit.int k n).wf = true
theorem open_ints_rd {H : Type} {enc : TypeId × Value → H} {P : Program} {w : World} {sp : Nat → Bool} {t e : TypeId} {k : IntKind} {a : Option Addr} {len cap : Nat} {d : DataW H} {p : List MemPlace} (ht : P.underlying t = some (.slice e)) (he : P.underlying e = some (.int k)) (hc : P.cellsOf e = 1)
    (h : DataW.Trod enc P w 0 sp true t (.slice a len cap) d p) : ∃ zs, IsInts k w a len cap zs := by
  obtain ⟨fuel, hf⟩ := h
  rcases open_ints ht he hc hf with ⟨hcs, _⟩ | ⟨x, l, c, zs, hcs, _, hl, hm, hz, _, hcell, hwz⟩
  · simp [Value.cells] at hcs
    obtain ⟨rfl, rfl, rfl⟩ := hcs
    exact ⟨[], rfl, by simp [maxLen], Rd.nil w 1, by simp⟩
  · simp [Value.cells] at hcs
    obtain ⟨rfl, rfl, rfl⟩ := hcs
    have hle : len ≤ zs.length := by rw [hz]; split <;> omega
    refine ⟨zs.take len, by rw [List.length_take]; omega, hm, Rd.of_cells (by simp; omega) hl (by omega) (fun j u hu => ?_), fun n hn => hwz n (List.mem_of_mem_take hn)⟩
    rw [List.getElem?_map, List.getElem?_take] at hu
    split at hu
    · have hj : j < zs.length := by omega
      rw [List.getElem?_eq_getElem hj] at hu
      simp at hu
      rw [hcell j hj, ← hu]
      simp [List.getD, List.getElem?_eq_getElem hj]
    · simp at hu

theorem okWide_array {P : Program} {w : World} {r : Reach} {base : Nat} {t e : TypeId} {n : Nat} {v : Value} (ht : P.underlying t = some (.array n e)) (h : Value.okWide P w r base t v) : ∃ cs, v = .agg cs ∧ cs.size = P.cellsOf t := by
  simp only [Value.okWide, ht] at h
  obtain ⟨cs, h1, h2, _⟩ := h
  exact ⟨cs, h1, h2⟩
theorem ints_of_each (k : IntKind) : ∀ l : List Value, (∀ i, i < l.length → ∃ z, l[i]? = some (.int k z) ∧ (Lit.int k z).wf = true) →
    ∃ zs : List Int, l = zs.map (Value.int k) ∧ ∀ z ∈ zs, (Lit.int k z).wf = true := by
  intro l
  induction l with
  | nil => intro _; exact ⟨[], rfl, by simp⟩
  | cons c l ih =>
    intro each
    obtain ⟨z, h0, hw⟩ := each 0 (by simp)
    simp at h0
    obtain ⟨zs, h1, h2⟩ := ih (fun i hi => by
      obtain ⟨y, hy, hy'⟩ := each (i + 1) (by simpa using hi)
      exact ⟨y, by simpa using hy, hy'⟩)
    exact ⟨z :: zs, by simp [h0, h1], fun x hx => by
      rcases List.mem_cons.1 hx with rfl | hx
      · exact hw
      · exact h2 x hx⟩
theorem open_arr {H : Type} {enc : TypeId × Value → H} {P : Program} {w : World} {r : Reach} {b0 : Nat} {sp : Nat → Bool} {t e : TypeId} {k : IntKind} {n : Nat} {v : Value} {d : DataW H} {p : List MemPlace} (ht : P.underlying t = some (.array n e)) (he : P.underlying e = some (.int k)) (hc : P.cellsOf e = 1)
    (hct : P.cellsOf t = n) (hv : Value.okWide P w r b0 t v) (h : DataW.Trod enc P w 0 sp true t v d p) : ∃ zs : List Int, v = .agg (zs.map (Value.int k)).toArray ∧ zs.length = n ∧ ∀ z ∈ zs, (Lit.int k z).wf = true := by
  obtain ⟨cs, rfl, hsz⟩ := okWide_array ht hv
  obtain ⟨fuel, hf⟩ := h
  have hf : DataW.trod enc P w 0 sp true fuel t cs.toList = some (d, p) := hf
  obtain ⟨xs, m, _, _, hlen, hl, hel⟩ := DataW.trod_array ht hf
  have hlen2 : cs.toList.length = n := by simpa [hct] using hsz
  obtain ⟨zs, h1, h2⟩ := ints_of_each k cs.toList (fun i hi => by
    have h1 := hel i (by omega)
    rw [hc, Nat.mul_one] at h1
    have hx : xs[i]? = some (xs[i]'(by omega)) := List.getElem?_eq_getElem (by omega)
    rw [hx] at h1
    obtain ⟨z, h2, _, h3⟩ := DataW.trod_int he h1
    refine ⟨z, ?_, h3⟩
    rw [List.drop_eq_getElem_cons hi] at h2
    simp only [List.take_succ_cons, List.take_zero, List.cons.injEq] at h2
    rw [List.getElem?_eq_getElem hi, h2.1])
  refine ⟨zs, ?_, by rw [h1] at hlen2; simpa using hlen2, h2⟩
  rw [← h1]
/-- A struct of two int and a string, by value. -/
theorem open_span {H : Type} {enc : TypeId × Value → H} {P : Program} {w : World} {r : Reach} {b0 : Nat} {sp : Nat → Bool} {t : TypeId} {f0 f1 f2 : Field} {v : Value} {d : DataW H} {p : List MemPlace} (ht : P.underlying t = some (.struct #[f0, f1, f2]))
    (o0 : f0.offset = 0) (o1 : f1.offset = 1) (o2 : f2.offset = 2) (h0 : P.underlying f0.type = some (.int .i64)) (h1 : P.underlying f1.type = some (.int .i64)) (h2 : P.underlying f2.type = some .string)
    (c0 : P.cellsOf f0.type = 1) (c1 : P.cellsOf f1.type = 1) (c2 : P.cellsOf f2.type = 1) (hct : P.cellsOf t = 3) (hv : Value.okWide P w r b0 t v) (h : DataW.Trod enc P w 0 sp true t v d p) :
    ∃ (k n : Int) (s : ByteArray), v = .agg #[.int .i64 k, .int .i64 n, .string s] ∧ (Lit.int .i64 k).wf = true ∧ (Lit.int .i64 n).wf = true ∧ s.size ≤ maxLen := by
  obtain ⟨cs, rfl, hsz⟩ := okWide_struct ht hv
  obtain ⟨fuel, hf⟩ := h
  have hf : DataW.trod enc P w 0 sp true fuel t cs.toList = some (d, p) := hf
  obtain ⟨xs, m, _, _, hl, hlen, hel⟩ := DataW.trod_struct ht hf
  have hx : xs.length = 3 := hlen
  have e0 := hel 0 f0 rfl
  have e1 := hel 1 f1 rfl
  have e2 := hel 2 f2 rfl
  rw [o0, c0] at e0
  rw [o1, c1] at e1
  rw [o2, c2] at e2
  rw [List.getElem?_eq_getElem (show 0 < xs.length by omega)] at e0
  rw [List.getElem?_eq_getElem (show 1 < xs.length by omega)] at e1
  rw [List.getElem?_eq_getElem (show 2 < xs.length by omega)] at e2
  obtain ⟨k, hk, _, wk⟩ := DataW.trod_int h0 e0
  obtain ⟨n, hn, _, wn⟩ := DataW.trod_int h1 e1
  obtain ⟨s, hs, _, ws⟩ := DataW.trod_string h2 e2
  refine ⟨k, n, s, ?_, wk, wn, ws⟩
  rw [hct] at hsz
  have hl3 : cs.toList.length = 3 := by simpa using hsz
  obtain ⟨a, b, c, hc⟩ : ∃ a b c, cs.toList = [a, b, c] := by
    generalize cs.toList = l at hl3
    match l, hl3 with
    | [a, b, c], _ => exact ⟨a, b, c, rfl⟩
  rw [hc] at hk hn hs
  simp at hk hn hs
  subst hk; subst hn; subst hs
  congr 1
  apply Array.toList_inj.1
  rw [hc]
end Go.Proofs.YtejgkhmpmnjgaaaDoor
namespace Go.Proofs.YtejgkhmpmnjgaaaDoor
open Go.ChangeShapes Go.WideShapes Go.ChangeAt Go.RowKit
set_option maxRecDepth 100000

/-- A slice of spans that came in. -/
def IsSpans (w : World) (a : Option Addr) (len cap : Nat) (l : List Sp) : Prop :=
  l.length = len ∧ Rd w 3 (.slice a len cap) len (spCells l) ∧ ∀ s ∈ l, (Lit.int .i64 s.1).wf = true ∧ (Lit.int .i64 s.2.1).wf = true ∧ s.2.2.size ≤ maxLen
theorem list_of_each {α : Type} (Q : Nat → α → Prop) (n : Nat) (h : ∀ i, i < n → ∃ s, Q i s) : ∃ l : List α, l.length = n ∧ ∀ i s, l[i]? = some s → Q i s := by
  induction n with
  | zero => exact ⟨[], rfl, by simp⟩
  | succ n ih =>
    obtain ⟨l, hl, hq⟩ := ih (fun i hi => h i (by omega))
    obtain ⟨s, hs⟩ := h n (by omega)
    refine ⟨l ++ [s], by simp [hl], fun i u hu => ?_⟩
    rw [List.getElem?_append] at hu
    split at hu
    · exact hq i u hu
    · have hi : i = n := by
        rcases Nat.lt_trichotomy i n with h1 | h1 | h1
        · omega
        · exact h1
        · rw [List.getElem?_eq_none (by simp; omega)] at hu; cases hu
      subst hi
      rw [hl, Nat.sub_self] at hu
      simp at hu
      rw [← hu]; exact hs
theorem open_spans_rd {H : Type} {enc : TypeId × Value → H} {P : Program} {w : World} {sp : Nat → Bool} {t e : TypeId} {f0 f1 f2 : Field} {a : Option Addr} {len cap : Nat} {d : DataW H} {p : List MemPlace} (ht : P.underlying t = some (.slice e)) (he : P.underlying e = some (.struct #[f0, f1, f2]))
    (o0 : f0.offset = 0) (o1 : f1.offset = 1) (o2 : f2.offset = 2) (h0 : P.underlying f0.type = some (.int .i64)) (h1 : P.underlying f1.type = some (.int .i64)) (h2 : P.underlying f2.type = some .string)
    (c0 : P.cellsOf f0.type = 1) (c1 : P.cellsOf f1.type = 1) (c2 : P.cellsOf f2.type = 1) (hct : P.cellsOf e = 3)
    (h : DataW.Trod enc P w 0 sp true t (.slice a len cap) d p) : ∃ l, IsSpans w a len cap l := by
  obtain ⟨fuel, hf⟩ := h
  rcases Go.Deep.open_slice ht hf with ⟨hcs, _⟩ | ⟨x, l, c, m, n, D, Pl, hcs, _, hl, hm, hmm, _, hx⟩
  · simp [Value.cells] at hcs
    obtain ⟨rfl, rfl, rfl⟩ := hcs
    exact ⟨[], rfl, Rd.nil w 3, by simp⟩
  · simp [Value.cells] at hcs
    obtain ⟨rfl, rfl, rfl⟩ := hcs
    have hlm : len ≤ m := by rw [hmm]; split <;> omega
    obtain ⟨l, hll, hq⟩ := list_of_each (fun i (s : Sp) => w.cell? (x.add (i * 3)) = some (.int .i64 s.1) ∧ w.cell? (x.add (i * 3 + 1)) = some (.int .i64 s.2.1) ∧ w.cell? (x.add (i * 3 + 2)) = some (.string s.2.2) ∧
        (Lit.int .i64 s.1).wf = true ∧ (Lit.int .i64 s.2.1).wf = true ∧ s.2.2.size ≤ maxLen) len (by
      intro i hi
      obtain ⟨cs', g1, g2⟩ := hx i (by omega)
      rw [hct] at g1
      obtain ⟨_, hlen, hcell⟩ := World.cells?_some g1
      obtain ⟨xs, k, _, _, _, hxl, hel⟩ := DataW.trod_struct he g2
      have hx3 : xs.length = 3 := hxl
      have e0 := hel 0 f0 rfl
      have e1 := hel 1 f1 rfl
      have e2 := hel 2 f2 rfl
      rw [o0, c0] at e0
      rw [o1, c1] at e1
      rw [o2, c2] at e2
      rw [List.getElem?_eq_getElem (show 0 < xs.length by omega)] at e0
      rw [List.getElem?_eq_getElem (show 1 < xs.length by omega)] at e1
      rw [List.getElem?_eq_getElem (show 2 < xs.length by omega)] at e2
      obtain ⟨kk, hk, _, wk⟩ := DataW.trod_int h0 e0
      obtain ⟨nn, hn, _, wn⟩ := DataW.trod_int h1 e1
      obtain ⟨s, hs, _, ws⟩ := DataW.trod_string h2 e2
      obtain ⟨u0, u1, u2, hc⟩ : ∃ a b c, cs' = [a, b, c] := by
        match cs', hlen with
        | [a, b, c], _ => exact ⟨a, b, c, rfl⟩
      rw [hc] at hk hn hs hcell
      simp at hk hn hs
      subst hk; subst hn; subst hs
      have k0 := hcell 0 (by omega)
      have k1 := hcell 1 (by omega)
      have k2 := hcell 2 (by omega)
      rw [Go.Deep.add_add] at k0 k1 k2
      exact ⟨(kk, nn, s), k0, k1, k2, wk, wn, ws⟩)
    refine ⟨l, hll, Rd.of_cells (by rw [spCells_length, hll]) hl (by omega) (fun j u hu => ?_), fun s hs => ?_⟩
    · have hjl : j < (spCells l).length := by
        rcases Nat.lt_or_ge j (spCells l).length with g | g
        · exact g
        · rw [List.getElem?_eq_none g] at hu; cases hu
      rw [spCells_length] at hjl
      have hi : j / 3 < l.length := by omega
      obtain ⟨q0, q1, q2, _⟩ := hq (j / 3) l[j / 3] (List.getElem?_eq_getElem hi)
      obtain ⟨r0, r1, r2⟩ := spCells_at l (j / 3) hi
      rcases (by omega : j = j / 3 * 3 ∨ j = j / 3 * 3 + 1 ∨ j = j / 3 * 3 + 2) with e | e | e
      · rw [← e] at r0 q0
        rw [r0] at hu; rw [q0]; exact hu
      · rw [← e] at r1 q1
        rw [r1] at hu; rw [q1]; exact hu
      · rw [← e] at r2 q2
        rw [r2] at hu; rw [q2]; exact hu
    · obtain ⟨i, hi, rfl⟩ := List.getElem_of_mem hs
      obtain ⟨_, _, _, g⟩ := hq i l[i] (List.getElem?_eq_getElem hi)
      exact g
end Go.Proofs.YtejgkhmpmnjgaaaDoor
namespace Go.Proofs.YtejgkhmpmnjgaaaDoor
open Go.ChangeShapes Go.WideShapes Go.ChangeAt Go.RowKit
set_option maxRecDepth 100000

def IsStrs (w : World) (a : Option Addr) (n c : Nat) (ts : List ByteArray) : Prop :=
  ts.length = n ∧ n ≤ c ∧ c ≤ maxLen ∧ Rd w 1 (.slice a n c) n (ts.map Value.string) ∧ ∀ t ∈ ts, t.size ≤ maxLen
def IsBools (w : World) (a : Option Addr) (n c : Nat) (ds : List Bool) : Prop :=
  ds.length = n ∧ n ≤ c ∧ c ≤ maxLen ∧ Rd w 1 (.slice a n c) n (ds.map Value.bool)
theorem strs_open {H : Type} {enc : TypeId × Value → H} {P : Program} {w : World} {base : Nat} {sp : Nat → Bool} {held : Bool} {fuel : Nat} {t e : TypeId} {cs : List Value} {x : DataW H × List MemPlace} (ht : P.underlying t = some (.slice e)) (he : P.underlying e = some .string) (hc : P.cellsOf e = 1)
    (h : DataW.trod enc P w base sp held fuel t cs = some x) : ∃ a n c ts, cs = [.slice a n c] ∧ IsStrs w a n c ts := by
  rcases Go.Deep.open_slice1 ht hc h with ⟨rfl, _⟩ | ⟨a, len, cap, m, n, V, D, Pl, rfl, _, hl, hm, hmm, _, hx⟩
  · exact ⟨none, 0, 0, [], rfl, rfl, Nat.le_refl _, by simp [maxLen], Rd.nil w 1, by simp⟩
  · have hlm : len ≤ m := by rw [hmm]; split <;> omega
    obtain ⟨ts, hts, hq⟩ := list_of_each (fun i (s : ByteArray) => w.cell? (a.add i) = some (.string s) ∧ s.size ≤ maxLen) len (by
      intro i hi
      obtain ⟨g1, g2⟩ := hx i (by omega)
      obtain ⟨s, hs, _, hz⟩ := DataW.trod_string he g2
      injection hs with hs
      exact ⟨s, by rw [g1, hs], hz⟩)
    refine ⟨some a, len, cap, ts, rfl, hts, hl, hm, Rd.of_cells (by simp [hts]) hl (by omega) (fun j u hu => ?_), fun t ht => ?_⟩
    · rw [List.getElem?_map] at hu
      cases hj : ts[j]? with
      | none => rw [hj] at hu; cases hu
      | some s =>
        rw [hj] at hu
        injection hu with hu
        rw [← hu]
        exact (hq j s hj).1
    · obtain ⟨i, hi⟩ := List.getElem?_of_mem ht
      exact (hq i t hi).2
theorem bools_open {H : Type} {enc : TypeId × Value → H} {P : Program} {w : World} {base : Nat} {sp : Nat → Bool} {held : Bool} {fuel : Nat} {t e : TypeId} {cs : List Value} {x : DataW H × List MemPlace} (ht : P.underlying t = some (.slice e)) (he : P.underlying e = some .bool) (hc : P.cellsOf e = 1)
    (h : DataW.trod enc P w base sp held fuel t cs = some x) : ∃ a n c ds, cs = [.slice a n c] ∧ IsBools w a n c ds := by
  rcases Go.Deep.open_slice1 ht hc h with ⟨rfl, _⟩ | ⟨a, len, cap, m, n, V, D, Pl, rfl, _, hl, hm, hmm, _, hx⟩
  · exact ⟨none, 0, 0, [], rfl, rfl, Nat.le_refl _, by simp [maxLen], Rd.nil w 1⟩
  · have hlm : len ≤ m := by rw [hmm]; split <;> omega
    obtain ⟨ts, hts, hq⟩ := list_of_each (fun i (s : Bool) => w.cell? (a.add i) = some (.bool s)) len (by
      intro i hi
      obtain ⟨g1, g2⟩ := hx i (by omega)
      obtain ⟨s, hs, _⟩ := DataW.trod_bool he g2
      injection hs with hs
      exact ⟨s, by rw [g1, hs]⟩)
    refine ⟨some a, len, cap, ts, rfl, hts, hl, hm, Rd.of_cells (by simp [hts]) hl (by omega) (fun j u hu => ?_)⟩
    rw [List.getElem?_map] at hu
    cases hj : ts[j]? with
    | none => rw [hj] at hu; cases hu
    | some s =>
      rw [hj] at hu
      injection hu with hu
      rw [← hu]
      exact hq j s hj
/-- A struct of a slice of texts and a slice of marks, by value. -/
theorem open_gaps {H : Type} {enc : TypeId × Value → H} {P : Program} {w : World} {r : Reach} {b0 : Nat} {sp : Nat → Bool} {t e0 e1 : TypeId} {f0 f1 : Field} {v : Value} {d : DataW H} {p : List MemPlace} (ht : P.underlying t = some (.struct #[f0, f1]))
    (o0 : f0.offset = 0) (o1 : f1.offset = 1) (h0 : P.underlying f0.type = some (.slice e0)) (h1 : P.underlying f1.type = some (.slice e1)) (s0 : P.underlying e0 = some .string) (s1 : P.underlying e1 = some .bool)
    (c0 : P.cellsOf f0.type = 1) (c1 : P.cellsOf f1.type = 1) (d0 : P.cellsOf e0 = 1) (d1 : P.cellsOf e1 = 1) (hct : P.cellsOf t = 2) (hv : Value.okWide P w r b0 t v) (h : DataW.Trod enc P w 0 sp true t v d p) :
    ∃ a n c ts b m k ds, v = .agg #[.slice a n c, .slice b m k] ∧ IsStrs w a n c ts ∧ IsBools w b m k ds := by
  obtain ⟨cs, rfl, hsz⟩ := okWide_struct ht hv
  obtain ⟨fuel, hf⟩ := h
  have hf : DataW.trod enc P w 0 sp true fuel t cs.toList = some (d, p) := hf
  obtain ⟨xs, m, _, _, hl, hlen, hel⟩ := DataW.trod_struct ht hf
  have hx : xs.length = 2 := hlen
  have g0 := hel 0 f0 rfl
  have g1 := hel 1 f1 rfl
  rw [o0, c0, List.getElem?_eq_getElem (show 0 < xs.length by omega)] at g0
  rw [o1, c1, List.getElem?_eq_getElem (show 1 < xs.length by omega)] at g1
  obtain ⟨a, n, c, ts, hs, ws⟩ := strs_open h0 s0 d0 g0
  obtain ⟨b, m, k, ds, hb, wb⟩ := bools_open h1 s1 d1 g1
  refine ⟨a, n, c, ts, b, m, k, ds, ?_, ws, wb⟩
  rw [hct] at hsz
  have hl2 : cs.toList.length = 2 := by simpa using hsz
  obtain ⟨x, y, hc⟩ : ∃ x y, cs.toList = [x, y] := by
    generalize cs.toList = l at hl2
    match l, hl2 with
    | [x, y], _ => exact ⟨x, y, rfl⟩
  rw [hc] at hs hb
  simp at hs hb
  subst hs; subst hb
  congr 1
  apply Array.toList_inj.1
  rw [hc]
end Go.Proofs.YtejgkhmpmnjgaaaDoor
