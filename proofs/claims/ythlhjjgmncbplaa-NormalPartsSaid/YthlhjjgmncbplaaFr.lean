/- Arguments of a statement, opened: slices of integers. -/
import Derived.Test.YthlhjjgmncbplaaBc
import Derived.ProofKit
import Derived.OpenShut
import Derived.ShutString
import Derived.ChangeOld
namespace Go.Proofs.Ythlhjjgmncbplaa
open Go.ChangeShapes Go.WideShapes Go.ChangeAt Go.RowKit

theorem spot_none {w : World} {x : Addr} {u : Value} (h : w.cell? (x.add 0) = some u) : ∃ b o, x = ⟨b, o, none⟩ := by
  obtain ⟨b, o, sp⟩ := x
  cases sp with
  | none => exact ⟨b, o, rfl⟩
  | some q =>
    exfalso
    have e : (⟨b, o, some q⟩ : Addr).add 0 = ⟨b, o, some q⟩ := by unfold Addr.add; simp
    rw [e] at h
    unfold World.cell? at h
    split at h
    · simp at h
    · cases h
theorem add_none (b o i : Nat) : (⟨b, o, none⟩ : Addr).add i = ⟨b, o + i, none⟩ := by
  unfold Addr.add; split
  · rename_i h; subst h; rfl
  · rfl

/-- Cells that begin at an address, all there: a slice of them reads. -/
theorem Rd.of_cells {w : World} {size : Nat} {x : Addr} {n c : Nat} {xs : List Value} (hl : xs.length = n * size) (hc : n ≤ c) (hs : 0 < size)
    (h : ∀ (j : Nat) (u : Value), xs[j]? = some u → w.cell? (x.add j) = some u) : Rd w size (.slice (some x) n c) n xs := by
  refine ⟨hl, some x, c, rfl, hc, fun hn => ?_⟩
  have hpos : 0 < xs.length := by rw [hl]; exact Nat.mul_pos hn hs
  have h0 := h 0 xs[0] (List.getElem?_eq_getElem hpos)
  obtain ⟨b, o, rfl⟩ := spot_none h0
  have hb : b < w.heap.size := by
    have := World.block_lt_of_cell? _ _ h0
    rw [add_none] at this; exact this
  exact ⟨b, o, rfl, hb, fun j u hu => by rw [← add_none]; exact h j u hu⟩

/-- A slice of integers that came in. -/
def IsInts (k : IntKind) (w : World) (a : Option Addr) (len cap : Nat) (zs : List Int) : Prop :=
  zs.length = len ∧ cap ≤ maxLen ∧ Rd w 1 (.slice a len cap) len (zs.map (Value.int k)) ∧ ∀ n ∈ zs, (Lit.int k n).wf = true
theorem open_ints_rd {H : Type} {enc : TypeId × Value → H} {P : Program} {w : World} {sp : Nat → Bool} {t e : TypeId} {k : IntKind} {a : Option Addr} {len cap : Nat} {d : DataW H} {p : List MemPlace} (ht : P.underlying t = some (.slice e)) (he : P.underlying e = some (.int k)) (hc : P.cellsOf e = 1)
    (h : DataW.Trod enc P w 0 sp true t (.slice a len cap) d p) : ∃ zs, IsInts k w a len cap zs := by
  obtain ⟨fuel, hf⟩ := h
  rcases open_ints ht he hc hf with ⟨hcs, _⟩ | ⟨x, l, c, zs, hcs, _, hl, hm, hz, _, hcell, hwz⟩
  · simp [Value.cells] at hcs
    obtain ⟨rfl, rfl, rfl⟩ := hcs
    exact ⟨[], rfl, by simp [maxLen], Rd.nil w 1, by simp⟩
  · simp [Value.cells] at hcs
    obtain ⟨rfl, rfl, rfl⟩ := hcs
    have hle : len ≤ zs.length := by rw [hz]; split <;> omega
    refine ⟨zs.take len, by rw [List.length_take]; omega, hm, Rd.of_cells (by simp; omega) hl (by omega) (fun j u hu => ?_), fun n hn => hwz n (List.mem_of_mem_take hn)⟩
    rw [List.getElem?_map, List.getElem?_take] at hu
    split at hu
    · have hj : j < zs.length := by omega
      rw [List.getElem?_eq_getElem hj] at hu
      simp at hu
      rw [hcell j hj, ← hu]
      simp [List.getD, List.getElem?_eq_getElem hj]
    · simp at hu

theorem okWide_array {P : Program} {w : World} {r : Reach} {base : Nat} {t e : TypeId} {n : Nat} {v : Value} (ht : P.underlying t = some (.array n e)) (h : Value.okWide P w r base t v) : ∃ cs, v = .agg cs ∧ cs.size = P.cellsOf t := by
  simp only [Value.okWide, ht] at h
  obtain ⟨cs, h1, h2, _⟩ := h
  exact ⟨cs, h1, h2⟩
theorem ints_of_each (k : IntKind) : ∀ l : List Value, (∀ i, i < l.length → ∃ z, l[i]? = some (.int k z) ∧ (Lit.int k z).wf = true) →
    ∃ zs : List Int, l = zs.map (Value.int k) ∧ ∀ z ∈ zs, (Lit.int k z).wf = true := by
  intro l
  induction l with
  | nil => intro _; exact ⟨[], rfl, by simp⟩
  | cons c l ih =>
    intro each
    obtain ⟨z, h0, hw⟩ := each 0 (by simp)
    simp at h0
    obtain ⟨zs, h1, h2⟩ := ih (fun i hi => by
      obtain ⟨y, hy, hy'⟩ := each (i + 1) (by simpa using hi)
      exact ⟨y, by simpa using hy, hy'⟩)
    exact ⟨z :: zs, by simp [h0, h1], fun x hx => by
      rcases List.mem_cons.1 hx with rfl | hx
      · exact hw
      · exact h2 x hx⟩
theorem open_arr {H : Type} {enc : TypeId × Value → H} {P : Program} {w : World} {r : Reach} {b0 : Nat} {sp : Nat → Bool} {t e : TypeId} {k : IntKind} {n : Nat} {v : Value} {d : DataW H} {p : List MemPlace} (ht : P.underlying t = some (.array n e)) (he : P.underlying e = some (.int k)) (hc : P.cellsOf e = 1)
    (hct : P.cellsOf t = n) (hv : Value.okWide P w r b0 t v) (h : DataW.Trod enc P w 0 sp true t v d p) : ∃ zs : List Int, v = .agg (zs.map (Value.int k)).toArray ∧ zs.length = n ∧ ∀ z ∈ zs, (Lit.int k z).wf = true := by
  obtain ⟨cs, rfl, hsz⟩ := okWide_array ht hv
  obtain ⟨fuel, hf⟩ := h
  have hf : DataW.trod enc P w 0 sp true fuel t cs.toList = some (d, p) := hf
  obtain ⟨xs, m, _, _, hlen, hl, hel⟩ := DataW.trod_array ht hf
  have hlen2 : cs.toList.length = n := by simpa [hct] using hsz
  obtain ⟨zs, h1, h2⟩ := ints_of_each k cs.toList (fun i hi => by
    have h1 := hel i (by omega)
    rw [hc, Nat.mul_one] at h1
    have hx : xs[i]? = some (xs[i]'(by omega)) := List.getElem?_eq_getElem (by omega)
    rw [hx] at h1
    obtain ⟨z, h2, _, h3⟩ := DataW.trod_int he h1
    refine ⟨z, ?_, h3⟩
    rw [List.drop_eq_getElem_cons hi] at h2
    simp only [List.take_succ_cons, List.take_zero, List.cons.injEq] at h2
    rw [List.getElem?_eq_getElem hi, h2.1])
  refine ⟨zs, ?_, by rw [h1] at hlen2; simpa using hlen2, h2⟩
  rw [← h1]
/-- A struct of two int and a string, by value. -/
theorem open_span {H : Type} {enc : TypeId × Value → H} {P : Program} {w : World} {r : Reach} {b0 : Nat} {sp : Nat → Bool} {t : TypeId} {f0 f1 f2 : Field} {v : Value} {d : DataW H} {p : List MemPlace} (ht : P.underlying t = some (.struct #[f0, f1, f2]))
    (o0 : f0.offset = 0) (o1 : f1.offset = 1) (o2 : f2.offset = 2) (h0 : P.underlying f0.type = some (.int .i64)) (h1 : P.underlying f1.type = some (.int .i64)) (h2 : P.underlying f2.type = some .string)
    (c0 : P.cellsOf f0.type = 1) (c1 : P.cellsOf f1.type = 1) (c2 : P.cellsOf f2.type = 1) (hct : P.cellsOf t = 3) (hv : Value.okWide P w r b0 t v) (h : DataW.Trod enc P w 0 sp true t v d p) :
    ∃ (k n : Int) (s : ByteArray), v = .agg #[.int .i64 k, .int .i64 n, .string s] ∧ (Lit.int .i64 k).wf = true ∧ (Lit.int .i64 n).wf = true ∧ s.size ≤ maxLen := by
  obtain ⟨cs, rfl, hsz⟩ := okWide_struct ht hv
  obtain ⟨fuel, hf⟩ := h
  have hf : DataW.trod enc P w 0 sp true fuel t cs.toList = some (d, p) := hf
  obtain ⟨xs, m, _, _, hl, hlen, hel⟩ := DataW.trod_struct ht hf
  have hx : xs.length = 3 := hlen
  have e0 := hel 0 f0 rfl
  have e1 := hel 1 f1 rfl
  have e2 := hel 2 f2 rfl
  rw [o0, c0] at e0
  rw [o1, c1] at e1
  rw [o2, c2] at e2
  rw [List.getElem?_eq_getElem (show 0 < xs.length by omega)] at e0
  rw [List.getElem?_eq_getElem (show 1 < xs.length by omega)] at e1
  rw [List.getElem?_eq_getElem (show 2 < xs.length by omega)] at e2
  obtain ⟨k, hk, _, wk⟩ := DataW.trod_int h0 e0
  obtain ⟨n, hn, _, wn⟩ := DataW.trod_int h1 e1
  obtain ⟨s, hs, _, ws⟩ := DataW.trod_string h2 e2
  refine ⟨k, n, s, ?_, wk, wn, ws⟩
  rw [hct] at hsz
  have hl3 : cs.toList.length = 3 := by simpa using hsz
  obtain ⟨a, b, c, hc⟩ : ∃ a b c, cs.toList = [a, b, c] := by
    generalize cs.toList = l at hl3
    match l, hl3 with
    | [a, b, c], _ => exact ⟨a, b, c, rfl⟩
  rw [hc] at hk hn hs
  simp at hk hn hs
  subst hk; subst hn; subst hs
  congr 1
  apply Array.toList_inj.1
  rw [hc]
end Go.Proofs.Ythlhjjgmncbplaa
