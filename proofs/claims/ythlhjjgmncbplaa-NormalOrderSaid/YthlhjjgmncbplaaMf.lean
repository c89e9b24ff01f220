/- What Fit makes, as plain lists. -/
import Derived.Test.YthlhjjgmncbplaaC4d
import Derived.Test.YthlhjjgmncbplaaMn
namespace Go.Proofs.Ythlhjjgmncbplaa
open Go.RowKit
set_option maxRecDepth 100000
theorem spCells_one (l : List Sp) : ∀ u ∈ spCells l, u.oneCell' = true := by
  intro u hu
  unfold spCells at hu
  obtain ⟨s, _, hs⟩ := List.mem_flatMap.1 hu
  simp only [List.mem_cons, List.not_mem_nil, or_false] at hs
  rcases hs with rfl | rfl | rfl <;> rfl
theorem inL_append (a b : List Sp) : inL (a ++ b) = inL a + inL b := by simp [inL]
theorem outL_append (a b : List Sp) : outL (a ++ b) = outL a + outL b := by simp [outL]
theorem wrap_two (a b : Int) : wrap64 (wrap64 a + wrap64 b) = wrap64 (a + b) := by unfold wrap64; omega
theorem errL_take (l : List Sp) (j : Nat) (h : j < l.length) : errL (l.take (j + 1)) = if errL (l.take j) = 0 then mayS l[j].1 l[j].2.1 l[j].2.2 else errL (l.take j) := by
  induction l generalizing j with
  | nil => simp at h
  | cons a t ih =>
    cases j with
    | zero =>
      show (if mayS a.1 a.2.1 a.2.2 = 0 then (0 : Int) else mayS a.1 a.2.1 a.2.2) = if (0 : Int) = 0 then mayS a.1 a.2.1 a.2.2 else 0
      rw [if_pos rfl]
      split
      · rename_i h2; exact h2.symm
      · rfl
    | succ j =>
      rw [List.take_succ_cons, List.take_succ_cons, errL, errL]
      split
      · exact ih j (by simpa using h)
      · rfl
theorem errL_pre (l : List Sp) (j : Nat) (h : errL (l.take j) ≠ 0) : errL l = errL (l.take j) := by
  induction l generalizing j with
  | nil => simp
  | cons a t ih =>
    cases j with
    | zero => exact absurd rfl h
    | succ j =>
      rw [List.take_succ_cons, errL] at h ⊢
      rw [errL]
      split
      · rename_i h2; rw [if_pos h2] at h; exact ih j h
      · rfl
theorem mayS_put {cs : List Nat} (h : ∀ c ∈ cs, IsCp c) : mayS 2 0 (mkS (encs cs)) = 0 := by
  unfold mayS; rw [if_neg (by omega), if_pos rfl, if_pos rfl, bs_mkS, dec_encs h]; rfl
/-- Fit's operation may be, and takes what it was made for. -/
theorem fitRun_may (l : List Sp) (n : Int) (h0 : 0 ≤ n) (j : Nat) (hj : j ≤ l.length) : (∀ s ∈ (fitRun (l.take j) n).1, mayS s.1 s.2.1 s.2.2 = 0) ∧ inL (fitRun (l.take j) n).1 = n - (fitRun (l.take j) n).2 := by
  induction j with
  | zero => exact ⟨by simp [fitRun], by simp [fitRun, inL]⟩
  | succ j ih =>
    obtain ⟨h1, h2⟩ := ih (by omega)
    have h3 := fitRun_left l n h0 j (by omega)
    rw [fitRun_take l n j hj]
    generalize (fitRun (l.take j) n).1 = xs at *
    generalize (fitRun (l.take j) n).2 = m at *
    have hone : mayS (fitOne l[j] m).1.1 (fitOne l[j] m).1.2.1 (fitOne l[j] m).1.2.2 = 0 ∧ inS (fitOne l[j] m).1.1 (fitOne l[j] m).1.2.1 = m - (fitOne l[j] m).2 := by
      unfold fitOne
      split
      · refine ⟨?_, ?_⟩
        · exact mayS_put (fitC_cp _)
        · unfold inS; simp only; rw [if_neg (by omega)]; omega
      · rename_i hk
        have e : 1 + l[j].1 % 3 = 1 ∨ 1 + l[j].1 % 3 = 3 := by omega
        refine ⟨?_, ?_⟩
        · unfold mayS; simp only; rw [if_pos e, if_neg (by omega)]; rfl
        · unfold inS; simp only; rw [if_pos e]; omega
    refine ⟨?_, ?_⟩
    · intro s hs
      rcases List.mem_append.1 hs with hs | hs
      · exact h1 s hs
      · rw [List.mem_singleton] at hs; subst hs; exact hone.1
    · rw [inL_append, h2]
      have e : inL [(fitOne l[j] m).1] = m - (fitOne l[j] m).2 := by rw [← hone.2]; simp [inL]
      rw [e]; simp only; omega
theorem fitL_all (l : List Sp) (n : Int) (h0 : 0 ≤ n) (h1 : n ≤ 1048576) : (∀ s ∈ fitL l n, mayS s.1 s.2.1 s.2.2 = 0) ∧ inL (fitL l n) = n := by
  have e12 : l.take (min 12 l.length) = l.take 12 := List.take_eq_take_min.symm
  have h2 := fitRun_may l n h0 (min 12 l.length) (by omega)
  have h3 := fitRun_left l n h0 (min 12 l.length) (by omega)
  rw [e12] at h2 h3
  unfold fitL
  generalize (fitRun (l.take 12) n).1 = xs at *
  generalize (fitRun (l.take 12) n).2 = m at *
  by_cases hm : 0 < m
  · rw [if_pos hm]
    refine ⟨?_, ?_⟩
    · intro s hs
      rcases List.mem_append.1 hs with hs | hs
      · exact h2.1 s hs
      · rw [List.mem_singleton] at hs; subst hs
        unfold mayS; simp only; rw [if_pos (by simp), if_neg (by omega)]; rfl
    · rw [inL_append, h2.2]; simp [inL, inS]
  · rw [if_neg hm, List.append_nil]
    exact ⟨h2.1, by rw [h2.2]; omega⟩
theorem fitL_may (l : List Sp) (n : Int) (h0 : 0 ≤ n) (h1 : n ≤ 1048576) : mayL (fitL l n) = 0 := by
  obtain ⟨h2, h3⟩ := fitL_all l n h0 h1
  have hw : wrap64 n = n := by unfold wrap64; omega
  unfold mayL
  rw [errL_all _ h2, if_pos rfl, h3, hw, if_neg (by omega)]
theorem fitL_len (l : List Sp) (n : Int) : (fitL l n).length ≤ 13 := by
  have e12 : l.take (min 12 l.length) = l.take 12 := List.take_eq_take_min.symm
  have h := fitRun_len l n (min 12 l.length) (by omega)
  rw [e12] at h
  unfold fitL
  rw [List.length_append, h]
  split
  · simp; omega
  · simp; omega
theorem fitOne_text (s : Sp) (m : Int) : (fitOne s m).1.2.2.size ≤ 24 := by
  unfold fitOne
  split
  · simp only
    rw [size_mkS]
    have h1 := encs_le (fitC ((bs s.2.2).take 6))
    have h2 := fitC_length ((bs s.2.2).take 6)
    have h3 : ((bs s.2.2).take 6).length ≤ 6 := by rw [List.length_take]; omega
    omega
  · exact Nat.zero_le _
theorem fitRun_text (l : List Sp) (n : Int) : ∀ s ∈ (fitRun l n).1, s.2.2.size ≤ 24 := by
  have key : ∀ (l : List Sp) (r : List Sp × Int), (∀ s ∈ r.1, s.2.2.size ≤ 24) → ∀ s ∈ (l.foldl (fun r s => (r.1 ++ [(fitOne s r.2).1], (fitOne s r.2).2)) r).1, s.2.2.size ≤ 24 := by
    intro l
    induction l with
    | nil => intro r h; exact h
    | cons a t ih =>
      intro r h
      rw [List.foldl_cons]
      apply ih
      intro s hs
      rcases List.mem_append.1 hs with hs | hs
      · exact h s hs
      · rw [List.mem_singleton] at hs; subst hs; exact fitOne_text _ _
  exact key l ([], n) (by simp)
theorem fitL_text (l : List Sp) (n : Int) : ∀ s ∈ fitL l n, s.2.2.size ≤ 24 := by
  intro s hs
  unfold fitL at hs
  rcases List.mem_append.1 hs with hs | hs
  · exact fitRun_text _ _ s hs
  · split at hs
    · rw [List.mem_singleton] at hs; subst hs; exact Nat.zero_le _
    · simp at hs
theorem may_pos (s : Sp) (h : mayS s.1 s.2.1 s.2.2 = 0) : 0 ≤ s.2.1 ∧ s.2.1 ≤ 1048576 ∧ inS s.1 s.2.1 = s.2.1 := by
  unfold mayS at h
  split at h
  · rename_i hk
    split at h
    · omega
    · rename_i hn
      exact ⟨by omega, by omega, by unfold inS; rw [if_pos hk]⟩
  · rename_i hk
    split at h
    · split at h
      · rename_i h0
        rw [h0]
        exact ⟨by omega, by omega, by unfold inS; rw [if_neg hk]⟩
      · omega
    · omega
theorem may_sum (l : List Sp) (h : ∀ s ∈ l, mayS s.1 s.2.1 s.2.2 = 0) : pos l ∧ (l.map fun s => s.2.1).sum = inL l := by
  refine ⟨fun s hs => (may_pos s (h s hs)).1, ?_⟩
  unfold inL
  congr 1
  apply List.map_congr_left
  intro s hs
  exact (may_pos s (h s hs)).2.2.symm
end Go.Proofs.Ythlhjjgmncbplaa
