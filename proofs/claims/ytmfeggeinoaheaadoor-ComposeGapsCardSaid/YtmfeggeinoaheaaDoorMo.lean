/- Layer 5, the program's way: without the empty spans; the first run of one kind. Plain lists. -/
import Derived.Test.YtmfeggeinoaheaaDoorC5
namespace Go.Proofs.YtmfeggeinoaheaaDoor
open Go.RowKit
set_option maxRecDepth 100000

/-- Without its empty spans. -/
def full (l : List Sp) : List Sp := l.filter fun s => ! decide (emp s)
theorem full_nil : full [] = [] := rfl
theorem full_append (a b : List Sp) : full (a ++ b) = full a ++ full b := by simp [full]
theorem full_one_emp (s : Sp) (h : emp s) : full [s] = [] := by simp [full, h]
theorem full_one (s : Sp) (h : ¬ emp s) : full [s] = [s] := by simp [full, h]
theorem full_len (l : List Sp) : (full l).length ≤ l.length := List.length_filter_le _ _
theorem full_mem {l : List Sp} {s : Sp} (h : s ∈ full l) : s ∈ l ∧ ¬ emp s := by
  have := List.mem_filter.1 h
  exact ⟨this.1, by simpa using this.2⟩
theorem full_self (l : List Sp) (h : ∀ s ∈ l, ¬ emp s) : full l = l := by
  unfold full
  rw [List.filter_eq_self]
  intro s hs
  simp [h s hs]
theorem full_take_emp (l : List Sp) (j : Nat) (h : j < l.length) (he : emp l[j]) : full (l.take (j + 1)) = full (l.take j) := by
  rw [List.take_add_one, List.getElem?_eq_getElem h, Option.toList_some, full_append, full_one_emp _ he, List.append_nil]
theorem full_take (l : List Sp) (j : Nat) (h : j < l.length) (he : ¬ emp l[j]) : full (l.take (j + 1)) = full (l.take j) ++ [l[j]] := by
  rw [List.take_add_one, List.getElem?_eq_getElem h, Option.toList_some, full_append, full_one _ he]
theorem norm_full (l : List Sp) : normL (full l) = normL l := by
  induction l with
  | nil => rfl
  | cons a t ih =>
    have e : full (a :: t) = full [a] ++ full t := full_append [a] t
    by_cases h : emp a
    · rw [e, full_one_emp _ h, List.nil_append, ih]
      show _ = normC a (normL t)
      rw [normC_emp _ _ h]
    · rw [e, full_one _ h]
      show normC a (normL (full t)) = normC a (normL t)
      rw [ih]
theorem Ok.full {l : List Sp} (h : Ok l) : Ok (full l) :=
  ⟨fun s hs => h.pos s (full_mem hs).1, by rw [← sumN_norm, norm_full, sumN_norm]; exact h.n, by rw [← sumT_norm, norm_full, sumT_norm]; exact h.t⟩
theorem Ok.drop {l : List Sp} (h : Ok l) (j : Nat) : Ok (l.drop j) := by
  have e := List.take_append_drop j l
  have h1 : Go.Proofs.YtmfeggeinoaheaaDoor.pos (l.take j) := fun s hs => h.pos s (List.mem_of_mem_take hs)
  have h2 : sumN (l.take j) + sumN (l.drop j) = sumN l := by rw [← sumN_append, e]
  have h3 : sumT (l.take j) + sumT (l.drop j) = sumT l := by rw [← sumT_append, e]
  have := sumN_pos _ h1; have := h.n; have := h.t
  exact ⟨fun s hs => h.pos s (List.mem_of_mem_drop hs), by omega, by omega⟩
/-- All texts, one behind the other. -/
def catT (l : List Sp) : ByteArray := l.foldr (fun s r => s.2.2 ++ r) ⟨#[]⟩
theorem catT_append (a b : List Sp) : catT (a ++ b) = catT a ++ catT b := by
  induction a with
  | nil => show catT b = ⟨#[]⟩ ++ catT b; rw [nil_ba]
  | cons s t ih =>
    show s.2.2 ++ catT (t ++ b) = (s.2.2 ++ catT t) ++ catT b
    rw [ih, ba_assoc]
theorem catT_one (s : Sp) : catT [s] = s.2.2 := ba_nil _
theorem catT_size (l : List Sp) : (catT l).size = sumT l := by
  induction l with
  | nil => rfl
  | cons s t ih =>
    show (s.2.2 ++ catT t).size = _
    rw [ba_size, ih]; simp [sumT]
theorem sumN_take (l : List Sp) (j : Nat) (h : j < l.length) : sumN (l.take (j + 1)) = sumN (l.take j) + l[j].2.1 := by
  rw [List.take_add_one, List.getElem?_eq_getElem h, Option.toList_some, sumN_append]; simp [sumN]
theorem catT_take (l : List Sp) (j : Nat) (h : j < l.length) : catT (l.take (j + 1)) = catT (l.take j) ++ l[j].2.2 := by
  rw [List.take_add_one, List.getElem?_eq_getElem h, Option.toList_some, catT_append, catT_one]
theorem norm_head (l : List Sp) (h : ∀ s ∈ l, ¬ emp s) : (l = [] ∧ normL l = []) ∨ ∃ s r t r', l = s :: r ∧ normL l = t :: r' ∧ t.1 = s.1 := by
  cases l with
  | nil => exact .inl ⟨rfl, rfl⟩
  | cons s r =>
    right
    have hs := h s (by simp)
    refine ⟨s, r, ?_⟩
    cases hr : normL r with
    | nil => exact ⟨s, [], rfl, by show normC s (normL r) = _; rw [hr, normC_nil _ hs], rfl⟩
    | cons t r' =>
      by_cases e : s.1 = t.1
      · exact ⟨mrg s t, r', rfl, by show normC s (normL r) = _; rw [hr, normC_cons _ _ _ hs, if_pos e], rfl⟩
      · exact ⟨s, t :: r', rfl, by show normC s (normL r) = _; rw [hr, normC_cons _ _ _ hs, if_neg e], rfl⟩
/-- A run of one kind, and behind it another kind, or nothing. -/
theorem norm_run (k : Int) (r : List Sp) (hr : ∀ s ∈ r, ¬ emp s) (hd : ∀ s t, r = s :: t → s.1 ≠ k) :
    ∀ l : List Sp, l ≠ [] → (∀ s ∈ l, ¬ emp s) → (∀ s ∈ l, s.1 = k) → normL (l ++ r) = (k, sumN l, catT l) :: normL r := by
  intro l
  induction l with
  | nil => intro h; exact absurd rfl h
  | cons s t ih =>
    intro _ h1 h2
    have hs := h1 s (by simp)
    have hk : s.1 = k := h2 s (by simp)
    obtain ⟨s1, s2, s3⟩ := s
    simp only at hk
    subst hk
    show normC _ (normL (t ++ r)) = _
    cases t with
    | nil =>
      have e1 : sumN [(s1, s2, s3)] = s2 := by simp [sumN]
      rw [List.nil_append, e1, catT_one]
      rcases norm_head r hr with ⟨_, h⟩ | ⟨a, b, c, d, ha, hc, hac⟩
      · rw [h, normC_nil _ hs]
      · rw [hc, normC_cons _ _ _ hs, if_neg (fun e => hd a b ha (by rw [← hac]; exact e.symm))]
    | cons u t =>
      rw [ih (by simp) (fun x hx => h1 x (by simp [List.mem_cons.1 hx])) (fun x hx => h2 x (by simp [List.mem_cons.1 hx]))]
      rw [normC_cons _ _ _ hs, if_pos rfl]
      have e1 : sumN ((s1, s2, s3) :: u :: t) = s2 + sumN (u :: t) := by simp [sumN]
      rw [e1]
      rfl
/-- How many spans the first run has. -/
def runOf (l : List Sp) (n : Nat) : Prop := 1 ≤ n ∧ n ≤ l.length ∧ (∀ i (h : i < l.length), i < n → l[i].1 = (l[0]'(by omega)).1) ∧ ∀ h : n < l.length, l[n].1 ≠ (l[0]'(by omega)).1
theorem runOf_norm (l : List Sp) (n : Nat) (h : runOf l n) (hf : ∀ s ∈ l, ¬ emp s) : ∃ k, (∀ s ∈ l.take n, s.1 = k) ∧ normL l = (k, sumN (l.take n), catT (l.take n)) :: normL (l.drop n) := by
  obtain ⟨h1, h2, h3, h4⟩ := h
  have hk : ∀ s ∈ l.take n, s.1 = (l[0]'(by omega)).1 := by
    intro s hs
    obtain ⟨i, hi, rfl⟩ := List.mem_iff_getElem.1 hs
    rw [List.length_take] at hi
    rw [List.getElem_take]
    exact h3 i (by omega) (by omega)
  refine ⟨(l[0]'(by omega)).1, hk, ?_⟩
  have e := norm_run (l[0]'(by omega)).1 (l.drop n) (fun s hs => hf s (List.mem_of_mem_drop hs)) (fun s t hst => ?_) (l.take n) (fun e => ?_) (fun s hs => hf s (List.mem_of_mem_take hs)) hk
  · rw [List.take_append_drop] at e; exact e
  · have hn : n < l.length := by
      rcases Nat.lt_or_ge n l.length with h | h
      · exact h
      · rw [List.drop_eq_nil_of_le h] at hst; cases hst
    rw [List.drop_eq_getElem_cons hn] at hst
    injection hst with e1 e2
    rw [← e1]; exact h4 hn
  · have : (l.take n).length = 0 := by rw [e]; rfl
    rw [List.length_take] at this; omega
end Go.Proofs.YtmfeggeinoaheaaDoor
