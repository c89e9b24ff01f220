/- Layer 5, the reference: Of, Is. -/
import Derived.Test.YtmfeggeinoaheaaDoorMn
import Derived.Test.YtmfeggeinoaheaaDoorBa
import Derived.Deep.QuietTactic
import Derived.BigQuiet
namespace Go.Proofs.YtmfeggeinoaheaaDoor
open Go.RowKit
set_option maxRecDepth 100000
set_option maxHeartbeats 1000000
def sumN (l : List Sp) : Int := (l.map fun s => s.2.1).sum
def sumT (l : List Sp) : Nat := (l.map fun s => s.2.2.size).sum
theorem sumN_normC (s : Sp) (r : List Sp) : sumN (normC s r) = s.2.1 + sumN r := by
  by_cases hs : emp s
  · rw [normC_emp _ _ hs, hs.1]; omega
  · cases r with
    | nil => rw [normC_nil _ hs]; rfl
    | cons t r =>
      rw [normC_cons _ _ _ hs]
      split
      · simp [sumN, mrg]; omega
      · simp [sumN]
theorem sumT_normC (s : Sp) (r : List Sp) : sumT (normC s r) = s.2.2.size + sumT r := by
  by_cases hs : emp s
  · rw [normC_emp _ _ hs, hs.2]; omega
  · cases r with
    | nil => rw [normC_nil _ hs]; rfl
    | cons t r =>
      rw [normC_cons _ _ _ hs]
      split
      · simp only [sumT, mrg, List.map_cons, List.sum_cons, ba_size]; omega
      · simp [sumT]
theorem sumN_norm (l : List Sp) : sumN (normL l) = sumN l := by
  induction l with
  | nil => rfl
  | cons a t ih => show sumN (normC a (normL t)) = _; rw [sumN_normC, ih]; rfl
theorem sumT_norm (l : List Sp) : sumT (normL l) = sumT l := by
  induction l with
  | nil => rfl
  | cons a t ih => show sumT (normC a (normL t)) = _; rw [sumT_normC, ih]; rfl
theorem sumN_append (a b : List Sp) : sumN (a ++ b) = sumN a + sumN b := by simp [sumN]
theorem sumT_append (a b : List Sp) : sumT (a ++ b) = sumT a + sumT b := by simp [sumT]
theorem sumN_pos (l : List Sp) (h : pos l) : 0 ≤ sumN l := by
  induction l with
  | nil => exact Int.le_refl _
  | cons a t ih => have := h a (by simp); have := ih (fun s hs => h s (by simp [hs])); simp [sumN] at *; omega
/-- How far an operation goes that the shortest form is asked of. -/
structure Ok (l : List Sp) : Prop where
  pos : pos l
  n : sumN l ≤ 1000000000
  t : sumT l ≤ 1000000000
theorem Ok.take {l : List Sp} (h : Ok l) (j : Nat) : Ok (l.take j) := by
  have e := List.take_append_drop j l
  have h1 : Go.Proofs.YtmfeggeinoaheaaDoor.pos (l.drop j) := fun s hs => h.pos s (List.mem_of_mem_drop hs)
  have h2 : sumN (l.take j) + sumN (l.drop j) = sumN l := by rw [← sumN_append, e]
  have h3 : sumT (l.take j) + sumT (l.drop j) = sumT l := by rw [← sumT_append, e]
  have := sumN_pos _ h1; have := h.n; have := h.t
  exact ⟨fun s hs => h.pos s (List.mem_of_mem_take hs), by omega, by omega⟩
theorem Ok.norm {l : List Sp} (h : Ok l) : Ok (normL l) := ⟨norm_pos l h.pos, by rw [sumN_norm]; exact h.n, by rw [sumT_norm]; exact h.t⟩
theorem norm_snoc_take (l : List Sp) (j : Nat) (h : j < l.length) : normL (l.take (j + 1)) = snocN (normL (l.take j)) l[j] := by
  rw [List.take_add_one, List.getElem?_eq_getElem h]
  exact norm_snoc _ _
theorem norm_take_len (l : List Sp) (j : Nat) : (normL (l.take j)).length ≤ j := by
  have := norm_len (l.take j); rw [List.length_take] at this; omega
theorem norm_ends (xs : List Sp) : xs = [] ∨ ∃ ys t, xs = ys ++ [t] := by
  rcases List.eq_nil_or_concat xs with h | ⟨ys, t, h⟩
  · exact .inl h
  · exact .inr ⟨ys, t, by simpa using h⟩
/-- What the last one, and the next one, come to. -/
theorem ok_step (l : List Sp) (j : Nat) (h : j < l.length) (ho : Ok l) : ∀ ys t, normL (l.take j) = ys ++ [t] → 0 ≤ t.2.1 ∧ 0 ≤ l[j].2.1 ∧ t.2.1 + l[j].2.1 ≤ 1000000000 ∧ t.2.2.size + l[j].2.2.size ≤ 1000000000 := by
  intro ys t e
  have h1 := (ho.take (j + 1))
  have e1 : l.take (j + 1) = l.take j ++ [l[j]] := by rw [List.take_add_one, List.getElem?_eq_getElem h]; rfl
  have n1 : sumN (l.take (j + 1)) = sumN ys + t.2.1 + l[j].2.1 := by
    rw [e1, sumN_append, ← sumN_norm (l.take j), e, sumN_append]; simp [sumN]
  have n2 : sumT (l.take (j + 1)) = sumT ys + t.2.2.size + l[j].2.2.size := by
    rw [e1, sumT_append, ← sumT_norm (l.take j), e, sumT_append]; simp [sumT]
  have hp := (ho.take j).norm.pos
  rw [e] at hp
  have p1 := sumN_pos ys (fun s hs => hp s (by simp [hs]))
  have p2 := hp t (by simp)
  have p3 := ho.pos l[j] (List.getElem_mem h)
  have := h1.n; have := h1.t
  omega
/-- The i-th span is not empty, and of another kind than the one ahead. -/
def good (l : List Sp) (i : Nat) : Prop := (∀ h : i < l.length, ¬ emp l[i]) ∧ ∀ k, i = k + 1 → ∀ (h : k + 1 < l.length), l[k].1 ≠ l[k + 1].1
theorem is_good (l : List Sp) : isN l ↔ ∀ i, i < l.length → good l i := by
  induction l with
  | nil => exact ⟨fun _ i h => by simp at h, fun _ => trivial⟩
  | cons a t ih =>
    cases t with
    | nil =>
      refine ⟨fun h i hi => ?_, fun h => (h 0 (by simp)).1 (by simp)⟩
      obtain rfl : i = 0 := by simpa using hi
      exact ⟨fun _ => h, fun k hk => by omega⟩
    | cons b t =>
      refine ⟨fun ⟨h1, h2, h3⟩ i hi => ?_, fun h => ⟨(h 0 (by simp)).1 (by simp), (h 1 (by simp)).2 0 rfl (by simp), ih.2 (fun i hi => ?_)⟩⟩
      · cases i with
        | zero => exact ⟨fun _ => h1, fun k hk => by omega⟩
        | succ i =>
          have g := ih.1 h3 i (by simpa using hi)
          refine ⟨fun h' => g.1 (by simpa using h'), fun k hk h' => ?_⟩
          cases k with
          | zero => exact h2
          | succ k => exact g.2 k (by omega) (by simpa using h')
      · have g := h (i + 1) (by simpa using hi)
        exact ⟨fun h' => g.1 (by simpa using h'), fun k hk h' => g.2 (k + 1) (by omega) (by simpa using h')⟩
theorem info_sp5 : (Tryd.prog.info? 45).map (fun i => (i.zero, i.size, i.bytes)) = some (some (.agg #[.int .i64 0, .int .i64 0, .string ⟨#[]⟩]), 3, 32) := by kernel_rfl
theorem spCells_set2 (ys : List Sp) (t1 t2 n : Int) (t3 x : ByteArray) (p : Nat) (hp : ys.length = p) :
    ((spCells (ys ++ [(t1, t2, t3)])).set (p * 3 + 1) (.int .i64 n)).set (p * 3 + 2) (.string x) = spCells (ys ++ [(t1, n, x)]) := by
  have hl : (spCells ys).length = p * 3 := by rw [spCells_length, hp]
  rw [spCells_append, spCells_append, List.set_append_right _ _ (by omega), List.set_append_right _ _ (by omega), hl, Nat.add_sub_cancel_left, Nat.add_sub_cancel_left]
  rfl
theorem Own.free {w : World} {B : Nat} {e : TypeId} {size n c g : Nat} {xs : List Value} (h : Own w B e size (.slice (some ⟨g, 0, none⟩) n c) n xs) (j : Nat) : w.frozen? ⟨g, j, none⟩ = false := by
  obtain ⟨⟨h1, h2⟩, h3⟩ := h
  rcases h2 with ⟨h2, _⟩ | ⟨g', cap, cur, hv, hb, hg, hc, hm, hs, ht⟩
  · cases h2
  · injection hv with e1 e2 e3
    injection e1 with e1
    injection e1 with e1
    subst e1
    unfold World.frozen?
    simp only [hg]
    simp
/-- A cell of a slice of one's own is turned. -/
theorem Own.set {w : World} {B : Nat} {e : TypeId} {size n c g : Nat} {xs : List Value} (h : Own w B e size (.slice (some ⟨g, 0, none⟩) n c) n xs) {j : Nat} (_hj : j < n * size) (u : Value) :
    Own (w.setCell ⟨g, j, none⟩ u) B e size (.slice (some ⟨g, 0, none⟩) n c) n (xs.set j u) := by
  obtain ⟨⟨h1, h2⟩, h3⟩ := h
  rcases h2 with ⟨h2, _⟩ | ⟨g', cap, cur, hv, hb, hg, hc, hm, hs, ht⟩
  · cases h2
  · injection hv with e1 e2 e3
    injection e1 with e1
    injection e1 with e1
    subst e1; subst e3
    refine ⟨⟨by rw [List.length_set]; exact h1, .inr ⟨g, c, cur.setIfInBounds j u, rfl, hb, ?_, hc, hm, by rw [Array.size_setIfInBounds]; exact hs, ?_⟩⟩, by simpa using h3⟩
    · exact heap_setCell_same w g j cur e u hg
    · rw [Array.toList_setIfInBounds, List.take_set, ht]
end Go.Proofs.YtmfeggeinoaheaaDoor
