/- Layer 4, rows of spans; the reference: In. -/
import Derived.Test.YthlhjjgmncbplaaDoorC3
import Derived.Test.YthlhjjgmncbplaaDoorBd
namespace Go.Proofs.YthlhjjgmncbplaaDoor
open Go.RowKit
set_option maxRecDepth 100000
set_option maxHeartbeats 1000000

/-- A span as plain data. -/
abbrev Sp := Int × Int × ByteArray
def spCells (l : List Sp) : List Value := l.flatMap fun s => [.int .i64 s.1, .int .i64 s.2.1, .string s.2.2]
theorem spCells_length (l : List Sp) : (spCells l).length = l.length * 3 := by
  induction l with
  | nil => rfl
  | cons a t ih =>
    have e : spCells (a :: t) = [.int .i64 a.1, .int .i64 a.2.1, .string a.2.2] ++ spCells t := rfl
    rw [e, List.length_append, ih, List.length_cons, List.length_cons, List.length_cons, List.length_cons, List.length_nil]; omega
theorem spCells_append (a b : List Sp) : spCells (a ++ b) = spCells a ++ spCells b := by simp [spCells]
theorem spCells_at (l : List Sp) (i : Nat) (h : i < l.length) : (spCells l)[i * 3]? = some (.int .i64 l[i].1) ∧ (spCells l)[i * 3 + 1]? = some (.int .i64 l[i].2.1) ∧ (spCells l)[i * 3 + 2]? = some (.string l[i].2.2) := by
  induction l generalizing i with
  | nil => simp at h
  | cons a t ih =>
    have e : spCells (a :: t) = .int .i64 a.1 :: .int .i64 a.2.1 :: .string a.2.2 :: spCells t := rfl
    cases i with
    | zero => rw [e]; exact ⟨rfl, rfl, rfl⟩
    | succ i =>
      have h' := ih i (by simpa using h)
      rw [e, show (i + 1) * 3 = i * 3 + 3 from by omega]
      exact h'
/-- The cells of the i-th span of a slice that reads. -/
theorem sp_at {w : World} {A : Option Addr} {n c : Nat} {l : List Sp} (h : Rd w 3 (.slice A n c) n (spCells l)) (hl : l.length = n) {i : Nat} (hi : i < n) :
    ∃ b off, A = some ⟨b, off, none⟩ ∧ b < w.heap.size ∧ w.cell? ⟨b, off + i * 3, none⟩ = some (.int .i64 (l[i]'(by omega)).1) ∧ w.cell? ⟨b, off + i * 3 + 1, none⟩ = some (.int .i64 (l[i]'(by omega)).2.1) ∧ w.cell? ⟨b, off + i * 3 + 2, none⟩ = some (.string (l[i]'(by omega)).2.2) := by
  obtain ⟨h1, A', c', hv, hc, h2⟩ := h
  injection hv with e1 e2 e3
  subst e1; subst e3
  obtain ⟨b, off, hA, hb, hcell⟩ := h2 (by omega)
  obtain ⟨a0, a1, a2⟩ := spCells_at l i (by omega)
  exact ⟨b, off, hA, hb, hcell _ _ a0, by rw [Nat.add_assoc]; exact hcell _ _ a1, by rw [Nat.add_assoc]; exact hcell _ _ a2⟩
/-- The sums go round at 2^63. -/
def inL (l : List Sp) : Int := (l.map fun s => inS s.1 s.2.1).sum
theorem wrap_step (a b : Int) : wrap64 (wrap64 a + b) = wrap64 (a + b) := by unfold wrap64; omega
theorem wrap_zero : wrap64 0 = 0 := by unfold wrap64; omega
theorem inL_nil (l : List Sp) : wrap64 (inL (l.take 0)) = 0 := by rw [List.take_zero]; exact wrap_zero
theorem inL_take (l : List Sp) (i : Nat) (h : i < l.length) : inL (l.take (i + 1)) = inL (l.take i) + inS l[i].1 l[i].2.1 := by
  unfold inL
  rw [List.take_add_one, List.getElem?_eq_getElem h, List.map_append, List.sum_append]
  simp
def outL (l : List Sp) : Int := (l.map fun s => outS s.1 s.2.1 s.2.2).sum
theorem outL_nil (l : List Sp) : wrap64 (outL (l.take 0)) = 0 := by rw [List.take_zero]; exact wrap_zero
theorem outL_take (l : List Sp) (i : Nat) (h : i < l.length) : outL (l.take (i + 1)) = outL (l.take i) + outS l[i].1 l[i].2.1 l[i].2.2 := by
  unfold outL
  rw [List.take_add_one, List.getElem?_eq_getElem h, List.map_append, List.sum_append]
  simp
def errL : List Sp → Int
  | [] => 0
  | s :: t => if mayS s.1 s.2.1 s.2.2 = 0 then errL t else mayS s.1 s.2.1 s.2.2
def mayL (l : List Sp) : Int := if errL l = 0 then (if 1048576 < wrap64 (inL l) then 4 else 0) else errL l
theorem errL_all (l : List Sp) (h : ∀ s ∈ l, mayS s.1 s.2.1 s.2.2 = 0) : errL l = 0 := by
  induction l with
  | nil => rfl
  | cons a t ih => rw [errL, if_pos (h a (by simp))]; exact ih (fun s hs => h s (by simp [hs]))
theorem errL_first (l : List Sp) (j : Nat) (hj : j < l.length) (h : ∀ s ∈ l.take j, mayS s.1 s.2.1 s.2.2 = 0) (hn : mayS l[j].1 l[j].2.1 l[j].2.2 ≠ 0) : errL l = mayS l[j].1 l[j].2.1 l[j].2.2 := by
  induction l generalizing j with
  | nil => simp at hj
  | cons a t ih =>
    cases j with
    | zero => rw [errL]; exact if_neg hn
    | succ j =>
      rw [errL, if_pos (h a (by simp))]
      exact ih j (by simpa using hj) (fun s hs => h s (by simp [hs])) hn
end Go.Proofs.YthlhjjgmncbplaaDoor
