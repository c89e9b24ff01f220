/- Slices that are read: cells in order; bytes to a string. -/
import Derived.Test.YthlhjjgmncbplaaBb
import Derived.Lib.UnsafeStr
import Derived.Laws.BytesArg
namespace Go.Proofs.Ythlhjjgmncbplaa
open Go.RowKit

/-- v is a slice of n elements, whose cells read as xs. -/
def Rd (w : World) (size : Nat) (v : Value) (n : Nat) (xs : List Value) : Prop :=
  xs.length = n * size ∧ ∃ A c, v = .slice A n c ∧ n ≤ c ∧ (0 < n → ∃ b off, A = some ⟨b, off, none⟩ ∧ b < w.heap.size ∧ ∀ (j : Nat) (u : Value), xs[j]? = some u → w.cell? ⟨b, off + j, none⟩ = some u)
theorem Rd.ext {w w' : World} {size : Nat} {v : Value} {n : Nat} {xs : List Value} (h : Rd w size v n xs) (x : Ext w w') : Rd w' size v n xs := by
  obtain ⟨h1, A, c, hv, hc, h2⟩ := h
  refine ⟨h1, A, c, hv, hc, fun hn => ?_⟩
  obtain ⟨b, off, hA, hb, hcell⟩ := h2 hn
  exact ⟨b, off, hA, Nat.lt_of_lt_of_le hb x.size, fun j u hu => (x.below.cell (p := ⟨b, off + j, none⟩) hb).trans (hcell j u hu)⟩
theorem Rd.nil (w : World) (size : Nat) : Rd w size (.slice none 0 0) 0 [] := ⟨by simp, none, 0, rfl, Nat.le_refl _, fun h => by omega⟩
theorem Rd.at_ {w : World} {v : Value} {n : Nat} {xs : List Value} (h : Rd w 1 v n xs) {k : Nat} (hk : k < n) :
    ∃ b off c u, v = .slice (some ⟨b, off, none⟩) n c ∧ n ≤ c ∧ b < w.heap.size ∧ xs[k]? = some u ∧ w.cell? ⟨b, off + k, none⟩ = some u := by
  obtain ⟨h1, A, c, hv, hc, h2⟩ := h
  obtain ⟨b, off, rfl, hb, hcell⟩ := h2 (by omega)
  have hl : k < xs.length := by omega
  exact ⟨b, off, c, xs[k], hv, hc, hb, List.getElem?_eq_getElem hl, hcell k _ (List.getElem?_eq_getElem hl)⟩
theorem Rd.cell {w : World} {A : Option Addr} {c n : Nat} {xs : List Value} (h : Rd w 1 (.slice A n c) n xs) {k : Nat} (hk : k < n) :
    ∃ b off u, A = some ⟨b, off, none⟩ ∧ b < w.heap.size ∧ xs[k]? = some u ∧ w.cell? ⟨b, off + k, none⟩ = some u := by
  obtain ⟨b, off, c', u, hv, _, hb, hu, hc⟩ := h.at_ hk
  injection hv with hA
  exact ⟨b, off, u, hA, hb, hu, hc⟩
theorem Own.rd {w : World} {B : Nat} {e : TypeId} {size : Nat} {v : Value} {n : Nat} {xs : List Value} (h : Own w B e size v n xs) : Rd w size v n xs := by
  refine ⟨h.1.1, ?_⟩
  by_cases hn : 0 < n
  · obtain ⟨g, c, hv, hc, _, hg, hcell⟩ := h.cells hn
    exact ⟨_, c, hv, hc, fun _ => ⟨g, 0, rfl, hg, fun j u hu => by rw [Nat.zero_add]; exact hcell j u hu⟩⟩
  · obtain ⟨a, c, hv, hc⟩ := h.len
    exact ⟨a, c, hv, hc, fun h => absurd h hn⟩

theorem strOfNums_bytes (l : List UInt8) : strOfNums (l.map fun b => (b.toNat : Int)) = mkS l := by
  apply bs_inj
  rw [bs_mkS]
  show (strOfNums _).data.toList = _
  rw [strOfNums_data, List.map_map]
  conv => rhs; rw [← List.map_id l]
  apply List.map_congr_left
  intro b _
  simp
theorem run_str {P : Program} (w : World) (src dst e : TypeId) (hs : P.underlying src = some (.slice e)) (he : P.underlying e = some (.int .u8)) (hd : P.underlying dst = some .string)
    {v : Value} {n : Nat} {l : List UInt8} (h : Rd w 1 v n (Lib.byteCells l)) : (convert src dst v).run P w = .ok (.string (mkS l)) w := by
  obtain ⟨h1, A, c, rfl, hc, h2⟩ := h
  have hl : l.length = n := by simpa [Lib.byteCells] using h1
  by_cases hn : 0 < n
  · obtain ⟨b, off, rfl, hb, hcell⟩ := h2 hn
    rw [run_convert_bytes_arg w src e hs he b off n c (l.map fun b => (b.toNat : Int)) (by simpa using hl) (fun i hi => by
      have hil : i < l.length := by omega
      apply hcell
      simp [Lib.byteCells, List.getElem?_eq_getElem hil, List.getD]) dst hd, strOfNums_bytes]
  · have hl0 : l = [] := List.eq_nil_of_length_eq_zero (by omega)
    subst hl0
    obtain rfl : n = 0 := by omega
    cases A with
    | none => rw [run_convert_bytes_nil w src e hs he 0 c dst hd]; rfl
    | some ad =>
      rw [run_convert_bytes_string w src dst e _ 0 c hs he hd, run_bytesToString w ad 0 c [] (by simp [loadCells, loadCellsFrom])]
      rfl
theorem wpList_convert_run {P : Program} {w : World} {ops : Array Oper} {rest : List Oper} {o : Oper} {a : Act} {Q : Exit → Act → World → Prop} (hgd : o.guard = none) {x : Operand} {src dst : TypeId}
    (ho : o.op = .convert src dst x) {v v' : Value} (hr : (convert src dst v).run P w = .ok v' w) (hx : a.eval x = v)
    (h : wpList P ops Q rest (a.put o.dst v') w) : wpList P ops Q (o :: rest) a w :=
  wpList_plain hgd fun _ hK => by
    unfold Oper.wp execOp
    simp only [ho, Sem.run_bind, Result.andThen_ok, hx, hr]
    exact hK _ _ h
end Go.Proofs.Ythlhjjgmncbplaa
